"""What keeps forms and hard words from being sound."""

from keptreadings.patterns import HOLE, first_tokens, followers, key_levels, middle_tokens, tail_tokens
from keptreadings.spelling import is_word


def doubled(patterns):
    return [pattern for pattern in patterns if patterns.count(pattern) > 1]


def unlike_keys(forms):
    """The keys for which some of the forms have unlike levels."""
    first = {}
    unlike = []
    for form in forms:
        for key, level in key_levels(form):
            if first.setdefault(key, level) != level:
                unlike.append(key)
    return unlike


def parted_beginnings(patterns):
    """The beginnings behind which a hole stands and something else, too."""
    behind = followers(patterns)
    return [place for place in behind if HOLE in behind[place] and len(set(behind[place])) > 1]


def tails_in_the_middle(patterns):
    middles = middle_tokens(patterns)
    return [token for token in tail_tokens(patterns) if token in middles]


def hard_nowhere(patterns, hard):
    first = first_tokens(patterns)
    return [word for word in hard if word not in first]


def soft_alone(patterns, hard):
    """The words that are a pattern alone, so that they have to be hard, and are not."""
    alone = [pattern[0] for pattern in patterns if len(pattern) == 1]
    return [word for word in alone if is_word(word) and word not in hard]


def least_clash(forms, hard):
    """The first clash of well-formed forms and hard words, None if they are sound."""
    patterns = [form[0] for form in forms]
    found = [
        ("twice", doubled(patterns)),
        ("level", unlike_keys(forms)),
        ("branch", parted_beginnings(patterns)),
        ("both", tails_in_the_middle(patterns)),
        ("hard", hard_nowhere(patterns, hard)),
        ("soft", soft_alone(patterns, hard)),
    ]
    for kind, culprits in found:
        if culprits:
            return (kind, min(culprits))
    return None
