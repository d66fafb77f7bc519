"""Places of an edition, and how it reads texts."""

from keptreadings.editions import require_edition
from keptreadings.errors import InvalidCount, UnknownPlace
from keptreadings.reader import Reader, take_all
from keptreadings.spelling import is_count
from keptreadings.tokens import require_text


def places(edition):
    """The ascending list of all places."""
    require_edition(edition)
    return sorted(list(edition.grammar.follows))


def goes_on(edition, place):
    """Whether a pattern ends at a place, the level of the hole behind it or None, the tokens."""
    if place not in places(edition):
        raise UnknownPlace(place)
    ends, hole, tokens = edition.grammar.follows[place]
    return (ends, hole, list(tokens))


def read(edition, text):
    """("read", tree), or ("fault", at) with the position of the fault."""
    require_edition(edition)
    require_text(text)
    reader = Reader(edition.grammar)
    many = len(take_all(reader, text, len(text)))
    if many == len(text) and reader.is_read():
        return ("read", reader.trees[0])
    return ("fault", many)


def taken(edition, text):
    """How each token ahead of the fault is taken."""
    require_edition(edition)
    require_text(text)
    return take_all(Reader(edition.grammar), text, len(text))


def standing(edition, text, at):
    """The frames and the mode behind the first tokens, None if the fault is among these."""
    require_edition(edition)
    require_text(text)
    if not is_count(at) or at > len(text):
        raise InvalidCount(at)
    reader = Reader(edition.grammar)
    if len(take_all(reader, text, at)) < at:
        return None
    return (list(reader.frames), reader.told_mode())


def standings(edition, text):
    """The standings behind no token, behind the first one and so on, as far as there is no fault."""
    reader = Reader(edition.grammar)
    found = [(list(reader.frames), reader.told_mode())]
    for at in range(len(text)):
        if reader.take(text[at], text[at + 1] if at + 1 < len(text) else "") is None:
            return found
        found.append((list(reader.frames), reader.told_mode()))
    return found
