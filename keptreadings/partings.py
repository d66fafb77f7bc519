"""Shortest texts that an elder edition reads, and a newer one not to the same tree.

Up to the token at which two editions part both have the same frames. So each shortest text leads to a
stack that both may have, and its next tokens are taken unlike there; what is behind them brings the
elder one's run to its end.
"""

from keptreadings.deeds import LEAF_LEVEL, deed_at, value_level
from keptreadings.patterns import HOLE
from keptreadings.runs import GOAL, Runs, is_name_at, stands_in_both, tokens_of
from keptreadings.spelling import NUMBER, is_word
from keptreadings.stacks import may_stand_on, tokens_to


def shared_patterns(runs):
    """The patterns of both that may be made."""
    newer = runs.newer.patterns()
    return [pattern for pattern in runs.elder.patterns() if pattern in newer and pattern not in runs.barred]


def add_alike(runs):
    """Add the nodes ("alike", frame, value, token), where both have had a value and not parted yet.

    ("down", frame, token) is where both have ended a frame by the token.
    """
    values = [None] + shared_patterns(runs)
    for frame in runs.frames:
        for value in values:
            for token in runs.waiting:
                add_deeds(runs, frame, value, token)
    for frame in runs.frames[1:]:
        ahead = tokens_to(frame)
        for lower in runs.lower_frames(frame):
            for token in runs.waiting:
                target = ("alike", lower, frame[1], token)
                runs.routes.add(("down", frame, token), target, ahead, ())


def add_deeds(runs, frame, value, token):
    """Add the step by what both do with a token, alike or unlike."""
    node = ("alike", frame, value, token)
    deed = deed_at(runs.elder, value, frame, token)
    if deed == deed_at(runs.newer, value, frame, token):
        if deed == ("end",):
            runs.routes.add(node, ("down", frame, token), (), ())
    elif deed[0] not in ("fault", "on"):
        # By an "on" that the newer lacks a pattern is made that it lacks, too.
        runs.routes.add(node, ("had", frame, value_level(runs.elder, value), token), (), ())


def starts_by_patterns(runs):
    """A form of each pattern that the newer lacks."""
    newer = runs.newer.patterns()
    missing = [pattern for pattern in runs.elder.patterns() if pattern not in newer]
    return [(GOAL, tokens_of(pattern)) for pattern in missing if pattern not in runs.barred]


def starts_by_values(runs):
    """Values that both have had alike, with any token behind them."""
    starts = []
    whole = [pattern for pattern in shared_patterns(runs) if pattern[-1] != HOLE]
    for frame in runs.frames:
        for token in runs.waiting:
            starts.append((("alike", frame, None, token), [NUMBER]))
            for pattern in whole:
                if stands_in_both(runs.elder, runs.newer, ("form", pattern), frame):
                    starts.append((("alike", frame, pattern, token), tokens_of(pattern)))
    return starts


def starts_by_names(runs):
    """Words that stand as names in the elder alone."""
    starts = []
    for word in [token for token in runs.newer.fixed() if is_word(token)]:
        for frame in runs.frames:
            for token in runs.waiting:
                if is_name_at(runs.elder, frame, word, token) and not is_name_at(runs.newer, frame, word, token):
                    starts.append((("had", frame, LEAF_LEVEL, token), [word]))
    return starts


def starts_by_heads(runs):
    """Heads that may stand in a frame in the elder, and are too low there in the newer."""
    starts = []
    newer = runs.newer.heads()
    for place in [(token,) for token in runs.elder.heads() if token in newer]:
        for frame in runs.frames:
            if not may_stand_on(runs.newer, ("form", place), frame):
                starts.append((("begun", frame, place), []))
    return starts


def shortest_parting(elder, newer, barred):
    """A shortest text that an elder grammar reads, to a tree without barred patterns, and a newer one
    not to the same tree; None if there is none."""
    question = ("parting", newer.told, tuple(barred))
    if question not in elder.answers:
        elder.keep(question, sought_parting(elder, newer, barred))
    text = elder.answers[question]
    return None if text is None else list(text)


def sought_parting(elder, newer, barred):
    runs = Runs(elder, newer, barred)
    add_alike(runs)
    runs.routes.measure()
    starts = starts_by_patterns(runs) + starts_by_values(runs) + starts_by_names(runs) + starts_by_heads(runs)
    return runs.routes.cheapest(starts)
