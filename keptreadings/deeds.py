"""What an edition does with the next token at a frame.

A frame is ("bottom",), ("bracket",) or ("form", place). A value is None for a leaf or what stood in
brackets, otherwise the pattern of its form. The end of a text is the token "".
"""

from keptreadings.patterns import own_key
from keptreadings.spelling import is_number, is_quoted, is_word

BOTTOM = ("bottom",)
BRACKET = ("bracket",)
LEAF_LEVEL = 10


def own_level(grammar, place):
    """The own level of the forms that begin with a place."""
    return grammar.levels[own_key(place)]


def asked_level(grammar, frame):
    """The level that is asked where a frame is the innermost one."""
    if frame[0] != "form":
        return 0
    return grammar.levels[("hole", frame[1])]


def value_level(grammar, value):
    return LEAF_LEVEL if value is None else own_level(grammar, value)


def begins_value(grammar, token):
    """Whether a token begins a value, whatever the levels."""
    if ("head", token) in grammar.levels:
        return True
    if ("tail", token) in grammar.levels or token in grammar.middles:
        return False
    return token == "(" or is_word(token) or is_number(token) or is_quoted(token)


def is_soft(grammar, token):
    """Whether a token is a soft word."""
    return ("head", token) in grammar.levels and token not in grammar.hard_words and is_word(token)


def begins_form(grammar, token, after):
    """Whether a token begins a form where a value is wanted, whatever the levels."""
    if not is_soft(grammar, token):
        return ("head", token) in grammar.levels
    _, hole, tokens = grammar.follows[(token,)]
    return after in tokens or (hole is not None and begins_value(grammar, after))


def first_deed_at(grammar, frame, token, after):
    """What is done with a word or sign where a value is wanted."""
    if begins_form(grammar, token, after):
        if own_level(grammar, (token,)) < asked_level(grammar, frame):
            return ("fault",)
        return ("head", (token,))
    return ("name",) if is_word(token) else ("fault",)


def stays_at(grammar, frame, token):
    """Whether a token is a tail token whose own level is at least the level asked at a frame."""
    key = ("tail", token)
    return key in grammar.levels and grammar.levels[key] >= asked_level(grammar, frame)


def deed_at(grammar, value, frame, token):
    """What is done with a token where a value is had in a frame."""
    if value is not None and token in grammar.follows[value][2]:
        return ("on", value + (token,))
    return deed_for_level(grammar, value_level(grammar, value), frame, token)


def deed_for_level(grammar, level, frame, token):
    """What is done with a token where a value of a level is had that does not go on by it."""
    if (frame == BOTTOM and token == "") or (frame == BRACKET and token == ")"):
        return ("take", ())
    if frame[0] == "form" and token in grammar.follows[frame[1]][2]:
        return ("take", frame[1] + (token,))
    if stays_at(grammar, frame, token):
        return ("fault",) if grammar.levels[("left", token)] > level else ("tail", ("_", token))
    if frame[0] == "form" and grammar.follows[frame[1]][0]:
        return ("end",)
    return ("fault",)
