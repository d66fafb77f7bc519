"""Stacks of frames, and the shortest tokens that lead to them and end them."""

from keptreadings.deeds import BOTTOM, BRACKET, asked_level, own_level
from keptreadings.editions import require_edition
from keptreadings.endings import shortest_ending
from keptreadings.errors import InvalidStack
from keptreadings.patterns import HOLE
from keptreadings.reading import read, standing
from keptreadings.spelling import NUMBER, is_number, is_quoted, is_word
from keptreadings.tokens import is_text


def frames(edition):
    """The ascending list of all frames."""
    require_edition(edition)
    places = sorted(list(edition.grammar.follows))
    return [BRACKET] + [("form", place) for place in places if place[-1] == HOLE]


def may_stand_on(grammar, frame, lower):
    """Whether a frame may stand on another one, or on the bottom."""
    return frame == BRACKET or own_level(grammar, frame[1]) >= asked_level(grammar, lower)


def next_frames(edition, frame):
    """The ascending list of the frames that may stand on a frame, or on ("bottom",)."""
    known = frames(edition)
    if frame != BOTTOM and frame not in known:
        raise InvalidStack(frame)
    return [upper for upper in known if may_stand_on(edition.grammar, upper, frame)]


def is_stack(edition, value):
    """Whether any object is a list of frames each of which may stand on the one ahead of it."""
    known = frames(edition)
    if not isinstance(value, list) or not all([frame in known for frame in value]):
        return False
    lower = BOTTOM
    for frame in value:
        if not may_stand_on(edition.grammar, frame, lower):
            return False
        lower = frame
    return True


def require_stack(edition, stack):
    if not is_stack(edition, stack):
        raise InvalidStack(stack)


def tokens_to(frame):
    """The fewest tokens that open a frame."""
    if frame == BRACKET:
        return ["("]
    return [NUMBER if item == HOLE else item for item in frame[1][:-1]]


def leading(edition, stack):
    """A shortest list of tokens that lead to a stack."""
    require_stack(edition, stack)
    return [token for frame in stack for token in tokens_to(frame)]


def leading_size(edition, stack):
    """How many tokens lead to a stack at least."""
    return len(leading(edition, stack))


def is_leading(edition, stack, value):
    """Whether any object is a shortest list of tokens that lead to a stack."""
    fewest = leading_size(edition, stack)
    if not is_text(value) or len(value) != fewest:
        return False
    return standing(edition, value + [NUMBER], len(value)) == (stack, ("wanted",))


def ending(edition, stack):
    """A shortest list of tokens that end a stack."""
    require_stack(edition, stack)
    return shortest_ending(edition.grammar, stack)


def ending_size(edition, stack):
    """How many tokens end a stack at least."""
    return len(ending(edition, stack))


def can_begin_ending(edition, token):
    """Whether a token is a number, a quoted word, or a word that no form has."""
    if is_number(token) or is_quoted(token):
        return True
    return is_word(token) and token not in edition.grammar.fixed()


def is_ending(edition, stack, value):
    """Whether any object is a shortest list of tokens that end a stack."""
    fewest = ending_size(edition, stack)
    if not is_text(value) or len(value) != fewest or not can_begin_ending(edition, value[0]):
        return False
    return read(edition, leading(edition, stack) + value)[0] == "read"
