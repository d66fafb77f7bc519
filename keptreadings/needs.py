"""The needs of a tree: what keeps its text without marks from being read to it, and on which ways."""

from keptreadings.deeds import begins_form, begins_value, is_soft, value_level
from keptreadings.patterns import HOLE, is_tail, keys_of
from keptreadings.reduced import takes
from keptreadings.trees import is_leaf


class Layout:
    """The text without marks of a tree, and for each path its part and where its tokens begin and end."""

    def __init__(self, tree):
        self.tokens = []
        self.parts = {}
        self.begins = {}
        self.ends = {}
        self.lay(tree, ())

    def lay(self, part, path):
        self.parts[path] = part
        self.begins[path] = len(self.tokens)
        if is_leaf(part):
            self.tokens.append(part[1])
        else:
            below = 0
            for item in part[0]:
                if item == HOLE:
                    self.lay(part[1][below], path + (below,))
                    below += 1
                else:
                    self.tokens.append(item)
        self.ends[path] = len(self.tokens)

    def first_token(self, path):
        return self.tokens[self.begins[path]]

    def token_behind(self, path):
        """The token right behind what stands at a path, "" at the end."""
        end = self.ends[path]
        return self.tokens[end] if end < len(self.tokens) else ""

    def slot(self, path):
        """The uppermost path whose part has the same last token."""
        while path and self.ends[path[:-1]] == self.ends[path]:
            path = path[:-1]
        return path

    def left_edge(self, path):
        """A path, that of the left part of a tail at it, and so on."""
        edge = [path]
        while not is_leaf(self.parts[path]) and is_tail(self.parts[path][0]):
            path = path + (0,)
            edge.append(path)
        return edge

    def own_level(self, grammar, path):
        part = self.parts[path]
        return value_level(grammar, None if is_leaf(part) else part[0])


def hole_needs(grammar, layout, path):
    """The needs of a part by the level of its hole: of the part itself, or of its left edge."""
    if not path:
        return []
    upper = layout.parts[path[:-1]][0]
    key = keys_of(upper)[1 + path[-1]]
    kind, edge = ("left", [path]) if key[0] == "left" else ("low", layout.left_edge(path))
    asked = grammar.levels[key]
    return [((path, lower), kind) for lower in edge if layout.own_level(grammar, lower) < asked]


def caught_needs(grammar, layout, path):
    """The need of a form that would catch the token behind it, or go on by it."""
    if takes(grammar, layout.parts[path][0], layout.token_behind(path)):
        return [((layout.slot(path), path), "caught")]
    return []


def word_needs(grammar, layout, path):
    """The need of a name whose word would begin a form."""
    word = layout.parts[path][1]
    if word in grammar.hard_words:
        return [((path, path), "word")]
    if begins_form(grammar, word, layout.token_behind(path)):
        return [((layout.slot(path), path), "word")]
    return []


def next_needs(grammar, layout, path):
    """The need of what stands right behind the soft word of a head and begins no value."""
    pattern, first = layout.parts[path][0], path + (0,)
    if not is_soft(grammar, pattern[0]) or pattern[1:2] != (HOLE,):
        return []
    if begins_value(grammar, layout.first_token(first)):
        return []
    return [((first, layout.left_edge(first)[-1]), "next")]


def needs_of(grammar, tree):
    """The needs of a tree, each as its way and its kind."""
    layout = Layout(tree)
    found = []
    for path in layout.parts:
        part = layout.parts[path]
        found = found + hole_needs(grammar, layout, path)
        if part[0] == "name":
            found = found + word_needs(grammar, layout, path)
        elif not is_leaf(part):
            found = found + caught_needs(grammar, layout, path) + next_needs(grammar, layout, path)
    return found


def ways_of(grammar, tree):
    """The ascending list of the ways of all needs of a tree."""
    return sorted(set([way for way, _ in needs_of(grammar, tree)]))


def is_on(way, path):
    """Whether a path is one of those on a way."""
    upper, lower = way
    return len(upper) <= len(path) and lower[:len(path)] == path


def paths_on(way):
    """The paths on a way, the upper ones first."""
    upper, lower = way
    return [lower[:size] for size in range(len(upper), len(lower) + 1)]


def is_way_within(way, other):
    """Whether all paths on a way are on another one."""
    return is_on(other, way[0]) and is_on(other, way[1])


def are_apart_ways(ways):
    """Whether no two of some ways have a path in common."""
    # Of two ways that meet, the one that begins further down begins on the other one.
    for at, way in enumerate(ways):
        if any([is_on(way, upper) or is_on((upper, lower), way[0]) for upper, lower in ways[:at]]):
            return False
    return True


def fewest_on(ways, allowed):
    """Fewest of the allowed paths so that one is on each of some ways, all of which have allowed ones.

    All ways that share one with the way whose first one is furthest down have this first one, too.
    """
    firsts = [([path for path in paths_on(way) if path in allowed][0], way) for way in ways]
    chosen = []
    for first, way in sorted(firsts, key=lambda row: -len(row[0])):
        if not any([is_on(way, path) for path in chosen]):
            chosen.append(first)
    return chosen


def ways_apart(ways):
    """As many of some ways as can be, no two of which have a path in common.

    Of two ways that meet, the one that begins further down meets the other one in its own first path.
    So the first paths of these ways are on all ways.
    """
    chosen = []
    for way in sorted(ways, key=lambda row: -len(row[0])):
        if not any([is_on(way, upper) for upper, _ in chosen]):
            chosen.append(way)
    return chosen
