"""Ways of trees in two editions, and bare texts that part them.

The newer edition has all forms of the elder one.
"""

from keptreadings.chains import least_unheld_tree
from keptreadings.errors import InvalidWay, UnknownForm
from keptreadings.kept import is_kept_text, kept, require_two
from keptreadings.marks import is_way, marked_text, require_tree_in
from keptreadings.needs import is_on, is_way_within, ways_of
from keptreadings.partings import shortest_parting
from keptreadings.spelling import NUMBER, is_fixed, is_word
from keptreadings.tokens import free_words, is_text, require_text
from keptreadings.trees import is_tree, paths, require_tree_of


def require_grown(elder, newer):
    """Raise the error for what are no two editions of which the newer has all forms of the elder."""
    require_two(elder, newer)
    known = newer.grammar.patterns()
    for pattern in elder.grammar.patterns():
        if pattern not in known:
            raise UnknownForm(pattern)


def unheld_ways(elder, newer, tree):
    """The ascending ways of a tree in the newer edition within which there is none in the elder."""
    held_by = ways_of(elder.grammar, tree)
    ways = ways_of(newer.grammar, tree)
    return [way for way in ways if not any([is_way_within(other, way) for other in held_by])]


def unheld(elder, newer, tree):
    """The ascending list of the ways of a tree in the newer edition that are not held."""
    require_grown(elder, newer)
    require_tree_of(elder, tree)
    return unheld_ways(elder, newer, tree)


def are_held(elder, newer):
    """Whether all ways of every tree of the elder edition are held."""
    require_grown(elder, newer)
    return kept(elder, newer)


def unheld_way(elder, newer):
    """A tree of the elder edition with fewest nodes, and an unheld way of it, None if all are held."""
    require_grown(elder, newer)
    tree = least_unheld_tree(elder.grammar, newer.grammar)
    return None if tree is None else (tree, unheld_ways(elder, newer, tree)[0])


def is_unheld_way(elder, newer, value):
    """Whether any object is a tuple of a tree of the elder edition and an unheld way of it."""
    require_grown(elder, newer)
    if not isinstance(value, tuple) or len(value) != 2 or not is_tree(elder, value[0]):
        return False
    return is_way(value[0], value[1]) and value[1] in unheld_ways(elder, newer, value[0])


def all_but(elder, tree, way):
    """The text of a tree with a mark at each path but those on a way."""
    require_tree_in(elder, tree)
    if not is_way(tree, way) or not is_on(way, way[0]):
        raise InvalidWay(way)
    return marked_text(tree, [path for path in paths(tree) if not is_on(way, path)])


def is_bare_text(elder, newer, text):
    """Whether a text has but fixed tokens of two editions and one other word."""
    fixed = elder.grammar.fixed() + newer.grammar.fixed()
    others = [token for token in text if is_word(token) and token not in fixed]
    return all([is_fixed(token) for token in text]) and len(set(others)) <= 1


def is_bare(elder, newer, text):
    """Whether a text is bare for two editions."""
    require_grown(elder, newer)
    require_text(text)
    return is_bare_text(elder, newer, text)


def bare_parting(elder, newer):
    """A bare text that the elder edition reads and the newer one not to the same tree, None if there is none."""
    require_grown(elder, newer)
    text = shortest_parting(elder.grammar, newer.grammar, [])
    if text is None:
        return None
    # A shortest text has no brackets, and any other leaf would do in the place of its numbers.
    word = free_words([elder, newer], 1)[0]
    return [word if token == NUMBER else token for token in text]


def is_bare_parting(elder, newer, value):
    """Whether any object is a bare text that the elder edition reads and the newer one not to the same tree."""
    require_grown(elder, newer)
    if not is_text(value) or not is_bare_text(elder, newer, value):
        return False
    return not is_kept_text(elder, newer, value)
