"""Which lots of changes break texts, and which forms all broken texts have."""

from keptreadings.changing import first_misfit, is_change, made_by, subsets
from keptreadings.clashes import least_clash
from keptreadings.editions import Edition, require_edition
from keptreadings.errors import InvalidChange, InvalidChanges, InvalidLot, UnknownForm
from keptreadings.kept import is_kept_text
from keptreadings.partings import shortest_parting
from keptreadings.reading import read
from keptreadings.spelling import are_ascending_counts
from keptreadings.tokens import is_text
from keptreadings.trees import forms_in


def require_changes(changes):
    """Raise the error for what is no list, or for the first thing in it that is no change by its form."""
    if not isinstance(changes, list):
        raise InvalidChanges(changes)
    for change in changes:
        if not is_change(change):
            raise InvalidChange(change)


def is_lot(changes, value):
    """Whether any object is an ascending list of positions in a list of changes."""
    return are_ascending_counts(value) and all([at < len(changes) for at in value])


def edition_of_lot(elder, changes, lot):
    """The edition of a lot, None if it has none."""
    chosen = [changes[at] for at in lot]
    if first_misfit(elder.forms(), elder.hard(), chosen) is not None:
        return None
    forms, hard = made_by(elder.forms(), elder.hard(), chosen)
    return Edition(forms, hard) if least_clash(forms, hard) is None else None


def lot_edition(elder, changes, lot):
    """The edition of a lot of changes, None if it has none."""
    require_edition(elder)
    require_changes(changes)
    if not is_lot(changes, lot):
        raise InvalidLot(lot)
    return edition_of_lot(elder, changes, lot)


def lots_by_texts(elder, changes):
    """For each lot that has an edition a tuple of it and a shortest broken text, or None, ascending."""
    rows = []
    for lot in sorted(subsets(list(range(len(changes))))):
        newer = edition_of_lot(elder, changes, lot)
        if newer is not None:
            rows.append((lot, shortest_parting(elder.grammar, newer.grammar, [])))
    return rows


def is_within(lot, other):
    """Whether a lot is within another one, and is not this one."""
    return len(lot) < len(other) and all([at in other for at in lot])


def breaking_rows(elder, changes):
    """The lots that break, and none within them does, ascending, each with a shortest broken text."""
    rows = [(lot, text) for lot, text in lots_by_texts(elder, changes) if text is not None]
    return [(lot, text) for lot, text in rows if not any([is_within(other, lot) for other, _ in rows])]


def breaking_lots(elder, changes):
    """The ascending list of the least lots that break."""
    require_edition(elder)
    require_changes(changes)
    return [lot for lot, _ in breaking_rows(elder, changes)]


def kept_lots(elder, changes):
    """The ascending list of the greatest lots that keep."""
    require_edition(elder)
    require_changes(changes)
    keeping = [lot for lot, text in lots_by_texts(elder, changes) if text is None]
    return [lot for lot in keeping if not any([is_within(lot, other) for other in keeping])]


def blame_texts(elder, changes):
    """A shortest broken text for each of the least lots that break."""
    require_edition(elder)
    require_changes(changes)
    return [text for _, text in breaking_rows(elder, changes)]


def is_blame_text(elder, newer, size, value):
    """Whether any object is a text of a size that two editions break."""
    return is_text(value) and len(value) == size and not is_kept_text(elder, newer, value)


def are_blame_texts(elder, changes, value):
    """Whether any object is a list of shortest broken texts, one for each of the least lots that break."""
    require_edition(elder)
    require_changes(changes)
    rows = breaking_rows(elder, changes)
    if not isinstance(value, list) or len(value) != len(rows):
        return False
    sizes = [(edition_of_lot(elder, changes, lot), len(text)) for lot, text in rows]
    return all([is_blame_text(elder, newer, size, part) for (newer, size), part in zip(sizes, value)])


def needed_forms(elder, newer):
    """The ascending patterns that the elder's trees of all broken texts have, None if no text is broken."""
    require_edition(elder)
    require_edition(newer)
    if shortest_parting(elder.grammar, newer.grammar, []) is None:
        return None
    patterns = elder.grammar.patterns()
    return [pattern for pattern in patterns if broken_without(elder, newer, pattern) is None]


def broken_without(elder, newer, pattern):
    """A shortest broken text whose tree lacks a pattern of the elder, None if there is none."""
    require_edition(elder)
    require_edition(newer)
    if pattern not in elder.grammar.patterns():
        raise UnknownForm(pattern)
    return shortest_parting(elder.grammar, newer.grammar, [pattern])


def is_broken_without(elder, newer, pattern, value):
    """Whether any object is a shortest broken text whose tree lacks a pattern of the elder."""
    shortest = broken_without(elder, newer, pattern)
    if shortest is None or not is_blame_text(elder, newer, len(shortest), value):
        return False
    return pattern not in forms_in(read(elder, value)[1])
