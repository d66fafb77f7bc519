"""Shortest texts that part one edition from another one."""

from keptreadings.editions import require_edition
from keptreadings.endings import shorter
from keptreadings.kept import is_kept_text
from keptreadings.partings import shortest_parting
from keptreadings.tokens import is_text


def parting_text(elder, newer):
    """A shortest text that the elder reads and the newer not to the same tree, None if there is none."""
    require_edition(elder)
    require_edition(newer)
    return shortest_parting(elder.grammar, newer.grammar, [])


def parting_size(elder, newer):
    """How many tokens a shortest text has that parts the elder from the newer, or None."""
    text = parting_text(elder, newer)
    return None if text is None else len(text)


def is_parting_text(elder, newer, value):
    """Whether any object is a shortest text that parts the elder from the newer."""
    # Most objects are refused without a look for the shortest text.
    require_edition(elder)
    require_edition(newer)
    if not is_text(value) or is_kept_text(elder, newer, value):
        return False
    return len(value) == parting_size(elder, newer)


def unlike_text(one, other):
    """A shortest text that parts one of two editions from the other, whichever; None if there is none."""
    return shorter(parting_text(one, other), parting_text(other, one))


def is_unlike_text(one, other, value):
    """Whether any object is a shortest text that parts one of two editions from the other."""
    require_edition(one)
    require_edition(other)
    if not is_text(value) or (is_kept_text(one, other, value) and is_kept_text(other, one, value)):
        return False
    return len(value) == len(unlike_text(one, other))


def parting_names(elder, newer):
    """The ascending list of the words that stand alone as names in the elder and not in the newer."""
    require_edition(elder)
    require_edition(newer)
    known = elder.hard()
    return [word for word in newer.hard() if word not in known]
