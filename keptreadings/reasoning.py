"""For which reasons an added form breaks texts, and where in the elder edition's runs this shows.

The newer grammar is the elder one with the form put in, and perhaps its first word made hard.
"""

from keptreadings.deeds import LEAF_LEVEL, begins_value, is_soft, own_level
from keptreadings.patterns import HOLE
from keptreadings.runs import GOAL, is_name_at, tokens_of
from keptreadings.spelling import is_word
from keptreadings.stacks import may_stand_on


def goes_on_behind_hole(grammar, token):
    """Whether a token stands right behind a hole in some pattern."""
    holes = [place for place in grammar.follows if place[-1] == HOLE]
    return token in grammar.tails() or any([token in grammar.follows[place][2] for place in holes])


def soft_words_with_holes(grammar):
    """The ascending soft words that a head goes on behind by a hole."""
    softs = [token for token in grammar.heads() if is_soft(grammar, token)]
    return [word for word in softs if grammar.follows[(word,)][1] is not None]


def starts_by_name(runs, word, after):
    """Where texts begin in which a word stands as a name right ahead of a token."""
    frames = [frame for frame in runs.frames if is_name_at(runs.elder, frame, word, after)]
    return [(("had", frame, LEAF_LEVEL, after), [word]) for frame in frames]


def starts_in_head(runs, first, word):
    """Where texts begin in which a word stands as a name right behind the first word of a head."""
    frame = ("form", (first, HOLE))
    afters = [after for after in runs.waiting if is_name_at(runs.elder, frame, word, after)]
    return [(("had", frame, LEAF_LEVEL, after), [word]) for after in afters]


def starts_behind(runs, pattern, token):
    """Where texts begin in which a token stands right behind a form of a pattern."""
    level = own_level(runs.elder, pattern)
    frames = [frame for frame in runs.frames if may_stand_on(runs.elder, ("form", pattern), frame)]
    return [(("had", frame, level, token), tokens_of(pattern)) for frame in frames]


def starts_of_reason(runs, reason):
    """Where texts begin that show a reason."""
    if reason[0] == "hard":
        return [(GOAL, [reason[1]])]
    if reason[0] == "names":
        return starts_in_head(runs, reason[1], reason[2])
    if reason[0] == "behind":
        return starts_behind(runs, reason[1], reason[2])
    return starts_by_name(runs, reason[1], reason[2])


def is_met(runs, reason):
    """Whether some text that the elder reads has what a reason is about."""
    return any([runs.routes.is_open(node) for node, _ in starts_of_reason(runs, reason)])


def is_meant(elder, newer, pattern, token):
    """Whether a token right behind the first word of an added head makes it a form, as it did not before."""
    word = pattern[0]
    if pattern[1:2] == (HOLE,):
        return ("head", word) not in elder.levels and begins_value(newer, token)
    return pattern[1:2] == (token,) and (word, token) not in elder.follows


def meant_reasons(elder, newer, pattern):
    if not is_soft(newer, pattern[0]):
        return []
    return [("meant", pattern[0], token) for token in elder.fixed() if is_meant(elder, newer, pattern, token)]


def begins_reasons(elder, pattern):
    token = pattern[0]
    if ("head", token) in elder.levels or not goes_on_behind_hole(elder, token):
        return []
    return [("begins", word, token) for word in soft_words_with_holes(elder)]


def names_reasons(elder, pattern):
    known = elder.fixed() + [pattern[0]]
    words = [item for item in pattern[1:] if is_word(item) and item not in known]
    return [("names", first, word) for first in soft_words_with_holes(elder) for word in words]


def behind_reasons(elder, pattern):
    whole = elder.patterns()
    pairs = [(pattern[:at], pattern[at]) for at in range(1, len(pattern)) if pattern[:at] in whole]
    pairs = [(beginning, item) for beginning, item in pairs if item != HOLE]
    return [("behind", beginning, item) for beginning, item in pairs if item not in elder.follows[beginning][2]]


def reasons_of(runs, newer, pattern, hard):
    """The ascending list of all reasons for which an added form of a pattern breaks texts."""
    elder = runs.elder
    by_texts = meant_reasons(elder, newer, pattern) + behind_reasons(elder, pattern)
    found = [("hard", word) for word in hard] + begins_reasons(elder, pattern) + names_reasons(elder, pattern)
    return sorted(set(found + [reason for reason in by_texts if is_met(runs, reason)]))


def lost_names(runs, newer):
    """The ascending reasons for which what is left of an edition reads a word as a name that began a form."""
    elder = runs.elder
    words = [word for word in elder.fixed() if not begins_value(newer, word)]
    found = [("names", first, word) for first in soft_words_with_holes(elder) for word in words]
    return [reason for reason in found if is_met(runs, reason)]
