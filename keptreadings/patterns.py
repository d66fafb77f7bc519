"""Patterns, forms and their keys, without regard to any edition."""

from keptreadings.spelling import is_fixed, is_level

HOLE = "_"
MOST_ITEMS = 7
MOST_HOLES = 3


def is_pattern(value):
    if not isinstance(value, tuple) or not 1 <= len(value) <= MOST_ITEMS:
        return False
    if not all([item == HOLE or is_fixed(item) for item in value]):
        return False
    many = value.count(HOLE)
    if many > MOST_HOLES or many == len(value):
        return False
    return not any([value[at:at + 2] == (HOLE, HOLE) for at in range(len(value))])


def is_well_formed(value):
    """Whether any object is a form."""
    if not isinstance(value, tuple) or len(value) != 3 or not is_pattern(value[0]):
        return False
    levels = value[2]
    if not isinstance(levels, tuple) or len(levels) != value[0].count(HOLE):
        return False
    return is_level(value[1]) and all([is_level(level) for level in levels])


def is_key(value):
    """Whether any object is a key of some form, whatever editions there are."""
    if not isinstance(value, tuple) or len(value) != 2:
        return False
    if value[0] in ("head", "tail", "left"):
        return is_fixed(value[1])
    # A beginning that ends with a hole and has a fixed token is a pattern itself.
    return value[0] == "hole" and is_pattern(value[1]) and value[1][-1] == HOLE


def is_tail(place):
    return place[0] == HOLE


def own_key(place):
    """The key of the own level of the forms that begin with a place."""
    if is_tail(place):
        return ("tail", place[1])
    return ("head", place[0])


def hole_key(pattern, at):
    if at == 0:
        return ("left", pattern[1])
    return ("hole", pattern[:at + 1])


def keys_of(pattern):
    """The keys of a pattern: of its own level, then of its holes in order."""
    holes = [hole_key(pattern, at) for at in range(len(pattern)) if pattern[at] == HOLE]
    return [own_key(pattern)] + holes


def key_levels(form):
    """The keys of a form, each beside its level."""
    pattern, level, levels = form
    return list(zip(keys_of(pattern), [level] + list(levels)))


def followers(patterns):
    """What stands behind each place: a list of items, with "" where a pattern ends."""
    behind = {}
    for pattern in patterns:
        for at in range(1, len(pattern) + 1):
            place = pattern[:at]
            item = pattern[at] if at < len(pattern) else ""
            # A hole alone is no place, since no fixed token is in it.
            if place != (HOLE,):
                behind.setdefault(place, []).append(item)
    return behind


def first_tokens(patterns):
    """The first tokens of the heads among some patterns."""
    return [pattern[0] for pattern in patterns if not is_tail(pattern)]


def tail_tokens(patterns):
    return [pattern[1] for pattern in patterns if is_tail(pattern)]


def middle_tokens(patterns):
    """The fixed tokens that neither begin a head nor stand behind a tail's left hole."""
    found = []
    for pattern in patterns:
        rest = pattern[2:] if is_tail(pattern) else pattern[1:]
        found.extend([item for item in rest if item != HOLE])
    return found
