"""Brackets and quotes in the texts of trees: which a tree needs, and how few will do."""

from keptreadings.editions import require_edition
from keptreadings.errors import InvalidMarks, InvalidWay
from keptreadings.needs import are_apart_ways, is_on, needs_of, ways_apart, ways_of
from keptreadings.pairs import text_with
from keptreadings.reading import read
from keptreadings.trees import all_parts, is_path, require_tree, require_tree_of


def are_marks(tree, value):
    """Whether any object is an ascending list of paths of a tree."""
    if not isinstance(value, list) or not all([is_path(tree, path) for path in value]):
        return False
    return all([path < later for path, later in zip(value, value[1:])])


def require_marks(tree, marks):
    if not are_marks(tree, marks):
        raise InvalidMarks(marks)


def require_tree_in(edition, tree):
    require_edition(edition)
    require_tree_of(edition, tree)


def marked_text(tree, marks):
    """The text of a tree with some marks."""
    names = {path: True for path, part in all_parts(tree) if part[0] == "name"}
    pairs = {path: 1 for path in marks if path not in names}
    return text_with(tree, (), pairs, {path: True for path in marks if path in names})


def marked(tree, marks):
    """The text of a tree with some marks."""
    require_tree(tree)
    require_marks(tree, marks)
    return marked_text(tree, marks)


def is_read_so(edition, tree, marks):
    """Whether an edition reads the text of a tree with some marks to the tree."""
    return read(edition, marked_text(tree, marks)) == ("read", tree)


def reads_to(edition, tree, marks):
    """Whether an edition reads the text of a tree with some marks to the tree."""
    require_tree_in(edition, tree)
    require_marks(tree, marks)
    return is_read_so(edition, tree, marks)


def need_ways(edition, tree):
    """The ascending list of the ways of all needs of a tree."""
    require_tree_in(edition, tree)
    return ways_of(edition.grammar, tree)


def unmet(edition, tree, marks):
    """The first way of a need on which there is no mark, None if there is one on each."""
    ways = need_ways(edition, tree)
    require_marks(tree, marks)
    for way in ways:
        if not any([is_on(way, path) for path in marks]):
            return way
    return None


def fewest_marks(edition, tree):
    """How many marks a tree must have at least."""
    return len(ways_apart(need_ways(edition, tree)))


def least_marks(edition, tree):
    """Fewest marks with which the text of a tree is read to it."""
    return sorted([upper for upper, _ in ways_apart(need_ways(edition, tree))])


def are_least_marks(edition, tree, value):
    """Whether any object is a list of fewest marks with which the text of a tree is read to it."""
    fewest = fewest_marks(edition, tree)
    return are_marks(tree, value) and len(value) == fewest and is_read_so(edition, tree, value)


def apart(edition, tree):
    """The ascending list of as many ways of needs as there must be marks, no two of which meet."""
    return sorted(ways_apart(need_ways(edition, tree)))


def is_way(tree, value):
    """Whether any object is a tuple of two paths of a tree."""
    return isinstance(value, tuple) and len(value) == 2 and is_path(tree, value[0]) and is_path(tree, value[1])


def are_apart(edition, tree, value):
    """Whether any object is a list as of apart."""
    ways = need_ways(edition, tree)
    if not isinstance(value, list) or len(value) != len(ways_apart(ways)):
        return False
    if not all([is_way(tree, way) and way in ways for way in value]):
        return False
    if not all([way < later for way, later in zip(value, value[1:])]):
        return False
    return are_apart_ways(value)


def kinds(edition, tree, way):
    """The ascending list of the kinds of the needs that have a way."""
    if not is_way_of(edition, tree, way):
        raise InvalidWay(way)
    return sorted(set([kind for other, kind in needs_of(edition.grammar, tree) if other == way]))


def is_way_of(edition, tree, value):
    """Whether any object is a way of a need of a tree."""
    ways = need_ways(edition, tree)
    return is_way(tree, value) and value in ways
