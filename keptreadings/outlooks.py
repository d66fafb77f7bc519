"""The looks of surroundings, and shortest surroundings that have them.

A look is (hole, token, taken), as is what surroundings show to a value that is put in: the hole in which it
stands, the token behind it, and whether it becomes the left child of this one. A number fits whatever
surroundings any text fits.
"""

from keptreadings.deeds import BOTTOM, BRACKET, LEAF_LEVEL, deed_for_level
from keptreadings.reading import read, standing
from keptreadings.runs import runs_alone
from keptreadings.spelling import NUMBER
from keptreadings.tokens import is_text


def is_surroundings(value):
    """Whether any object is a tuple of two texts."""
    return isinstance(value, tuple) and len(value) == 2 and is_text(value[0]) and is_text(value[1])


def size_of(surroundings):
    return len(surroundings[0]) + len(surroundings[1])


def hole_of(frame):
    if frame == BOTTOM:
        return ()
    return ("(",) if frame == BRACKET else frame[1]


def in_brackets(surroundings):
    """Surroundings with a pair of brackets around them, in the place of the bottom."""
    ahead, behind = surroundings
    return (["("] + ahead, behind + [")"])


def shortest_by_looks(grammar):
    """For each look, ascending, shortest surroundings that have it."""
    runs = runs_alone(grammar)
    found = {}
    for frame in runs.frames:
        for token in runs.waiting:
            node = ("had", frame, LEAF_LEVEL, token)
            if not runs.routes.is_open(node):
                continue
            is_taken = deed_for_level(grammar, LEAF_LEVEL, frame, token)[0] == "tail"
            around = runs.routes.around(node)
            found[(hole_of(frame), token, is_taken)] = around
            # A bracket is as good as the bottom, with its own token for the end.
            if frame == BOTTOM:
                found[(hole_of(BRACKET), token if token != "" else ")", is_taken)] = in_brackets(around)
            elif token == "":
                found[(hole_of(frame), ")", False)] = in_brackets(around)
    return {look: found[look] for look in sorted(list(found))}


def around_looks(grammar):
    """For each look, ascending, shortest surroundings that have it, not to be changed."""
    if "looks" not in grammar.answers:
        grammar.keep("looks", shortest_by_looks(grammar))
    return grammar.answers["looks"]


def look_of(edition, surroundings):
    """The look of surroundings, None if no text fits them."""
    ahead, behind = surroundings
    if read(edition, ahead + [NUMBER] + behind)[0] == "fault":
        return None
    frames, _ = standing(edition, ahead + [NUMBER], len(ahead))
    frame = frames[-1] if frames else BOTTOM
    token = behind[0] if behind else ""
    deed = deed_for_level(edition.grammar, LEAF_LEVEL, frame, token)
    return (hole_of(frame), token, deed[0] == "tail")
