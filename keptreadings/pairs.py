"""Pairs of brackets and quotes in texts: which a text has, and the text of a tree with some."""

from keptreadings.editions import require_edition
from keptreadings.errors import Fault
from keptreadings.needs import Layout
from keptreadings.patterns import HOLE
from keptreadings.reading import read
from keptreadings.spelling import QUOTE, is_quoted
from keptreadings.tokens import BRACKETS, require_text
from keptreadings.trees import is_leaf


def text_with(tree, path, pairs, quotes):
    """The text of the part of a tree at a path: pairs by paths tell how many, quotes are keys.

    Both may tell of other parts, too.
    """
    text = []
    if is_leaf(tree):
        text = [QUOTE + tree[1] if path in quotes else tree[1]]
    else:
        below = 0
        for item in tree[0]:
            if item == HOLE:
                text.extend(text_with(tree[1][below], path + (below,), pairs, quotes))
                below += 1
            else:
                text.append(item)
    many = pairs.get(path, 0)
    return ["("] * many + text + [")"] * many


def closings(text):
    """The positions of the closing brackets by those of the opening ones, in a text that is read."""
    waiting, found = [], {}
    for at, token in enumerate(text):
        if token == "(":
            waiting.append(at)
        elif token == ")":
            found[waiting.pop()] = at
    return found


def bare_positions(text):
    """For each position of a text, its end too, how many tokens but brackets are ahead."""
    positions = [0]
    for token in text:
        positions.append(positions[-1] + (0 if token in BRACKETS else 1))
    return positions


class Marking:
    """The tree to which a text is read, and by ascending paths the openings of pairs and the quotes.

    No two parts have the same tokens, since each form has one of its own: so tokens tell the part.
    """

    def __init__(self, tree, text):
        self.tree = tree
        layout = Layout(tree)
        self.parts = layout.parts
        ahead, closed = bare_positions(text), closings(text)
        opened = {}
        for at in sorted(list(closed)):
            opened.setdefault((ahead[at], ahead[closed[at]]), []).append(at)
        quoted = {ahead[at]: True for at, token in enumerate(text) if is_quoted(token)}
        self.openings = {}
        self.quotes = {}
        for path in layout.parts:
            span = (layout.begins[path], layout.ends[path])
            if span in opened:
                self.openings[path] = opened[span]
            if is_leaf(layout.parts[path]) and span[0] in quoted:
                self.quotes[path] = True

    def pairs(self):
        """How many pairs are around parts, by their ascending paths."""
        return {path: len(self.openings[path]) for path in self.openings}


def marking_in(edition, text):
    """The marking of a text that an edition has to read."""
    require_edition(edition)
    require_text(text)
    outcome = read(edition, text)
    if outcome[0] == "fault":
        raise Fault(outcome[1])
    return Marking(outcome[1], text)
