"""How far the levels of an edition may move so that all of its texts are kept."""

from keptreadings.alike import have_one_stock, require_one_stock
from keptreadings.changing import with_levels
from keptreadings.editions import Edition, changed, numbers, require_edition
from keptreadings.errors import InvalidKey, InvalidRow
from keptreadings.kept import is_kept_text
from keptreadings.partings import shortest_parting
from keptreadings.reading import read
from keptreadings.reduced import least_levels
from keptreadings.runs import runs_alone
from keptreadings.spelling import GREATEST_LEVEL
from keptreadings.tokens import is_text
from keptreadings.usage import is_so, key_comparison, rows_of_runs, rows_used_by, start_of_row


def known_rows(grammar):
    """The ascending list of the rows that some text uses which is read, not to be changed."""
    if "used rows" not in grammar.answers:
        grammar.keep("used rows", rows_of_runs(runs_alone(grammar)))
    return grammar.answers["used rows"]


def used_rows(edition):
    """The ascending list of the rows that some text uses which an edition reads."""
    require_edition(edition)
    return list(known_rows(edition.grammar))


def require_row(edition, row):
    require_edition(edition)
    if row not in known_rows(edition.grammar):
        raise InvalidRow(row)


def used_text(edition, row):
    """A shortest text that an edition reads and that uses a row."""
    require_row(edition, row)
    return runs_alone(edition.grammar).routes.cheapest([start_of_row(edition.grammar, row)])


def is_used_text(edition, row, value):
    """Whether any object is a shortest text that an edition reads and that uses a row."""
    # Most objects are refused without a look for the shortest text.
    require_row(edition, row)
    if not is_text(value) or read(edition, value)[0] == "fault":
        return False
    return row in rows_used_by(edition.grammar, value) and len(value) == len(used_text(edition, row))


def require_key(edition, key):
    require_edition(edition)
    if key not in list(edition.grammar.levels):
        raise InvalidKey(key)


def room(edition, key):
    """The least and the greatest level at a key with which all texts are kept."""
    require_key(edition, key)
    return rooms(edition)[key]


def rooms(edition):
    """The rooms of all keys, ascending."""
    levels = numbers(edition)
    least = {key: 0 for key in levels}
    greatest = {key: GREATEST_LEVEL for key in levels}
    # What a row says of two levels bounds each of them by the other one, as it is.
    for lower, upper, step in [key_comparison(row) for row in known_rows(edition.grammar)]:
        least[upper] = max(least[upper], levels[lower] + step)
        greatest[lower] = min(greatest[lower], levels[upper] - step)
    return {key: (least[key], greatest[key]) for key in levels}


def levels_beyond(edition, key):
    """The level below the room of a key and the one above it, None where there is none."""
    least, greatest = room(edition, key)
    return (least - 1 if least > 0 else None, greatest + 1 if greatest < GREATEST_LEVEL else None)


def text_broken_at(edition, key, level):
    """A shortest text that is broken with a level at a key, None if there is no such level."""
    if level is None:
        return None
    newer = changed(edition, ("level", key, level))
    return shortest_parting(edition.grammar, newer.grammar, [])


def room_ends(edition, key):
    """For the level below the room of a key and the one above it a shortest text that is broken, or None."""
    below, above = levels_beyond(edition, key)
    return (text_broken_at(edition, key, below), text_broken_at(edition, key, above))


def is_room_end(edition, key, level, value):
    """Whether any object is a shortest text that is broken with a level at a key, or None for no level."""
    if level is None:
        return value is None
    if not is_text(value) or is_kept_text(edition, changed(edition, ("level", key, level)), value):
        return False
    return len(value) == len(text_broken_at(edition, key, level))


def are_room_ends(edition, key, value):
    """Whether any object is a tuple as of room_ends."""
    beyond = levels_beyond(edition, key)
    if not isinstance(value, tuple) or len(value) != 2:
        return False
    return all([is_room_end(edition, key, level, part) for level, part in zip(beyond, value)])


def loosest_level(edition, key):
    """The level at a key that loosens most without breaking anything."""
    if key[0] == "left":
        return 0
    if key[0] == "head":
        return GREATEST_LEVEL
    if key[0] == "hole" and not edition.grammar.follows[key[1]][0]:
        return 0
    return edition.grammar.levels[key]


def is_looser(elder, newer):
    """Whether a newer edition is looser than an elder one."""
    require_edition(elder)
    require_edition(newer)
    if not have_one_stock(elder, newer):
        return False
    old, new = elder.grammar.levels, newer.grammar.levels
    bounds = {key: sorted([old[key], loosest_level(elder, key)]) for key in old}
    return all([bounds[key][0] <= new[key] <= bounds[key][1] for key in old])


def with_all_levels(edition, levels):
    """The edition of the same stock with levels by keys."""
    return Edition([with_levels(form, levels) for form in edition.forms()], edition.hard())


def loosest(edition):
    """The edition that is looser than one and than which none is but itself."""
    require_edition(edition)
    return with_all_levels(edition, {key: loosest_level(edition, key) for key in edition.grammar.levels})


def least_keeping(edition):
    """The edition of the same stock that keeps all texts and has the lowest levels."""
    rules = [key_comparison(row) for row in used_rows(edition)]
    levels, _ = least_levels(list(edition.grammar.levels), rules)
    return with_all_levels(edition, levels)


def greatest_keeping(edition):
    """The edition of the same stock that keeps all texts and has the highest levels."""
    # How far the levels are below the greatest one complies with the same rules turned round.
    rules = [(upper, lower, step) for lower, upper, step in [key_comparison(row) for row in used_rows(edition)]]
    depths, _ = least_levels(list(edition.grammar.levels), rules)
    return with_all_levels(edition, {key: GREATEST_LEVEL - depths[key] for key in depths})


def broken_rows(elder, newer):
    """The ascending list of the rows that the elder uses and that say what is not so of the newer's levels."""
    require_one_stock(elder, newer)
    return [row for row in used_rows(elder) if not is_so(row, newer.grammar.levels)]
