"""Shortest texts that part one edition from another one."""

from keptreadings.editions import require_edition
from keptreadings.endings import shorter
from keptreadings.kept import is_kept_text
from keptreadings.partings import shortest_parting
from keptreadings.tokens import is_text


def parting_text(elder, newer):
    """A shortest text that the elder reads and the newer not to the same tree, None if there is none."""
    require_edition(elder)
    require_edition(newer)
    return shortest_parting(elder.grammar, newer.grammar, [])


def parting_size(elder, newer):
    """How many tokens a shortest text has that parts the elder from the newer, or None."""
    text = parting_text(elder, newer)
    return None if text is None else len(text)


def is_parting_text(elder, newer, value):
    """Whether any object is a shortest text that parts the elder from the newer."""
    size = parting_size(elder, newer)
    if not is_text(value) or len(value) != size:
        return False
    return not is_kept_text(elder, newer, value)


def unlike_text(one, other):
    """A shortest text that parts one of two editions from the other, whichever; None if there is none."""
    return shorter(parting_text(one, other), parting_text(other, one))


def is_unlike_text(one, other, value):
    """Whether any object is a shortest text that parts one of two editions from the other."""
    shortest = unlike_text(one, other)
    if shortest is None or not is_text(value) or len(value) != len(shortest):
        return False
    return not is_kept_text(one, other, value) or not is_kept_text(other, one, value)


def parting_names(elder, newer):
    """The ascending list of the words that stand alone as names in the elder and not in the newer."""
    require_edition(elder)
    require_edition(newer)
    known = elder.hard()
    return [word for word in newer.hard() if word not in known]
