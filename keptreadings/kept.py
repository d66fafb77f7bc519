"""Whether all texts of an elder edition are kept by a newer one, and tables that tell it."""

from keptreadings.deeds import BOTTOM, BRACKET, deed_at, first_deed_at
from keptreadings.editions import require_edition, require_some_editions
from keptreadings.errors import InvalidStack, InvalidToken, UnknownForm
from keptreadings.partings import shortest_parting
from keptreadings.reading import read
from keptreadings.runs import form_frames_of_both
from keptreadings.spelling import is_fixed
from keptreadings.stacks import frames
from keptreadings.tables import Rows
from keptreadings.tokens import require_text


def require_two(elder, newer):
    require_edition(elder)
    require_edition(newer)


def is_kept_text(elder, newer, text):
    """Whether a text is kept: not read by the elder, or read by the newer to the same tree."""
    require_two(elder, newer)
    require_text(text)
    outcome = read(elder, text)
    return outcome[0] == "fault" or read(newer, text) == outcome


def kept(elder, newer):
    """Whether all texts are kept."""
    require_two(elder, newer)
    return shortest_parting(elder.grammar, newer.grammar, []) is None


def shared_frames(elder, newer):
    """The ascending list of the frames of all stacks that both may have."""
    require_two(elder, newer)
    # All of them may stand on the bottom, which asks for no level.
    return [BRACKET] + form_frames_of_both(elder.grammar, newer.grammar)


def require_frame(edition, frame):
    if frame != BOTTOM and frame not in frames(edition):
        raise InvalidStack(frame)


def deed(edition, value, frame, token):
    """What an edition does with a token behind a value had in a frame."""
    require_edition(edition)
    if value is not None and value not in edition.grammar.patterns():
        raise UnknownForm(value)
    require_frame(edition, frame)
    if not isinstance(token, str):
        raise InvalidToken(token)
    return deed_at(edition.grammar, value, frame, token)


def first_deed(edition, frame, token, after):
    """What an edition does with a word or sign where a value is wanted, with a token behind it."""
    require_edition(edition)
    require_frame(edition, frame)
    if not is_fixed(token):
        raise InvalidToken(token)
    if not isinstance(after, str):
        raise InvalidToken(after)
    return first_deed_at(edition.grammar, frame, token, after)


def has_all_patterns(elder, newer):
    """Whether the newer edition has all patterns of the elder one."""
    known = newer.grammar.patterns()
    return all([pattern in known for pattern in elder.grammar.patterns()])


def kept_table(elder, newer):
    """A table that tells that all texts are kept, None if there is none."""
    require_two(elder, newer)
    if not has_all_patterns(elder, newer):
        return None
    return Rows(elder.grammar, newer.grammar).least_table()


def is_kept_table(elder, newer, value):
    """Whether any object is a table that tells that all texts are kept."""
    require_two(elder, newer)
    return has_all_patterns(elder, newer) and Rows(elder.grammar, newer.grammar).is_table(value)


def kept_along(editions):
    """Whether every text that the first one of some editions reads is read by each to the same tree."""
    require_some_editions(editions)
    return all([kept(editions[0], edition) for edition in editions[1:]])
