"""Trees, their paths, parts and texts."""

from keptreadings.editions import require_edition
from keptreadings.errors import InvalidPath, InvalidTree, UnknownForm
from keptreadings.patterns import HOLE, is_pattern
from keptreadings.spelling import is_count, is_number, is_word


def is_leaf(tree):
    return tree[0] in ("name", "number")


def is_well_made_leaf(part):
    return (part[0] == "name" and is_word(part[1])) or (part[0] == "number" and is_number(part[1]))


def is_well_made_form(part):
    """Whether a tuple of two is a pattern with a list of as many things as it has holes."""
    if not is_pattern(part[0]) or not isinstance(part[1], list):
        return False
    return len(part[1]) == part[0].count(HOLE)


def is_any_tree(value):
    """Whether any object is a tree, whatever editions there are."""
    waiting = [value]
    while waiting:
        part = waiting.pop()
        if not isinstance(part, tuple) or len(part) != 2:
            return False
        if is_well_made_form(part):
            waiting.extend(part[1])
        elif not is_well_made_leaf(part):
            return False
    return True


def require_tree(tree):
    if not is_any_tree(tree):
        raise InvalidTree(tree)


def parts_of(tree):
    """The trees right below the root of a tree."""
    return [] if is_leaf(tree) else tree[1]


def all_parts(tree):
    """All parts of a tree, each behind its path, by ascending paths."""
    found = []
    waiting = [((), tree)]
    while waiting:
        path, part = waiting.pop()
        found.append((path, part))
        below = parts_of(part)
        for at in reversed(range(len(below))):
            waiting.append((path + (at,), below[at]))
    return found


def first_unknown(edition, tree):
    """The first pattern of a tree, by ascending paths, that an edition lacks, or None."""
    patterns = [form[0] for form in edition.forms()]
    for _, part in all_parts(tree):
        if not is_leaf(part) and part[0] not in patterns:
            return part[0]
    return None


def require_forms_of(edition, tree):
    """Raise the error for a tree that is none of an edition."""
    unknown = first_unknown(edition, tree)
    if unknown is not None:
        raise UnknownForm(unknown)


def require_tree_of(edition, tree):
    """Raise the error for what is no tree, or no tree of an edition."""
    require_tree(tree)
    require_forms_of(edition, tree)


def is_tree(edition, value):
    """Whether any object is a tree of an edition."""
    require_edition(edition)
    return is_any_tree(value) and first_unknown(edition, value) is None


def paths(tree):
    """The ascending list of all paths of a tree."""
    require_tree(tree)
    return [path for path, _ in all_parts(tree)]


def is_path(tree, value):
    """Whether any object is a path of a tree."""
    if not isinstance(value, tuple):
        return False
    part = tree
    for at in value:
        below = parts_of(part)
        if not is_count(at) or at >= len(below):
            return False
        part = below[at]
    return True


def require_path(tree, path):
    if not is_path(tree, path):
        raise InvalidPath(path)


def copied_tree(tree):
    if is_leaf(tree):
        return tree
    return (tree[0], [copied_tree(part) for part in tree[1]])


def part_at(tree, path):
    """The part of a tree at a path."""
    require_tree(tree)
    require_path(tree, path)
    part = tree
    for at in path:
        part = part[1][at]
    return copied_tree(part)


def put_at(tree, path, other):
    """The tree with another one in the place of the part at a path."""
    require_tree(tree)
    require_path(tree, path)
    require_tree(other)
    return replaced(tree, path, other)


def replaced(tree, path, other):
    if not path:
        return copied_tree(other)
    parts = [copied_tree(part) for part in tree[1]]
    parts[path[0]] = replaced(tree[1][path[0]], path[1:], other)
    return (tree[0], parts)


def forms_in(tree):
    """The ascending list of the patterns of a tree."""
    require_tree(tree)
    return sorted(set([part[0] for _, part in all_parts(tree) if not is_leaf(part)]))


def words_in(tree):
    """The ascending list of the words of the names of a tree."""
    require_tree(tree)
    return sorted(set([part[1] for _, part in all_parts(tree) if part[0] == "name"]))


def spelled(tree, begin):
    """The tokens of a tree whose text begins at a position, each with its tuple of [32]."""
    if is_leaf(tree):
        return [(tree[1], (begin, ()))]
    rows = []
    many = 0
    for at, item in enumerate(tree[0]):
        if item == HOLE:
            rows.extend(spelled(tree[1][many], begin + len(rows)))
            many += 1
        else:
            rows.append((item, (begin, tree[0][:at + 1])))
    return rows


def bare_text(tree):
    """The text of a tree without brackets and quotes."""
    require_tree(tree)
    return [token for token, _ in spelled(tree, 0)]


def yield_parts(tree):
    """For each token of the bare text where its form begins, and the beginning up to it."""
    require_tree(tree)
    return [part for _, part in spelled(tree, 0)]


def first_parted(one, other):
    """The first position at which the bare texts of two trees, or their parts, are unlike, or None."""
    require_tree(one)
    require_tree(other)
    rows, others = spelled(one, 0), spelled(other, 0)
    both = min(len(rows), len(others))
    for at in range(both):
        if rows[at] != others[at]:
            return at
    return None if len(rows) == len(others) else both
