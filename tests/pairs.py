"""Pairs of editions for the tests, one made of the other by a few changes."""

import random

from keptreadings.editions import changed_by
from keptreadings.errors import InvalidChange, Unsound
from tests import naive
from tests.samples import random_edition, random_form

TOKENS = ["a", "b", "c", "d", "+", "-"]


def some_change(source, edition, tokens, height):
    keys = sorted(naive.levels_by_keys(edition.forms()))
    patterns = [form[0] for form in edition.forms()]
    words = [pattern[0] for pattern in patterns if pattern[0].isalpha()]
    choices = [[("put", random_form(source, tokens, height))]]
    if keys:
        choices += [[("level", source.choice(keys), source.randint(0, height))]] * 3
        choices += [[("out", source.choice(patterns))]]
    if words:
        word = source.choice(words)
        choices += [[("soft" if word in edition.hard() else "hard", word)]]
    return source.choice(choices)


def mutated(source, edition, tokens, height, many):
    """An edition to which some changes lead, those that are sound."""
    for _ in range(many):
        try:
            edition = changed_by(edition, some_change(source, edition, tokens, height))
        except (InvalidChange, Unsound):
            pass
    return edition


def with_other_levels(source, edition, height, many):
    """An edition of the same stock with other levels at some keys."""
    keys = sorted(naive.levels_by_keys(edition.forms()))
    for _ in range(many):
        if keys:
            edition = changed_by(edition, [("level", source.choice(keys), source.randint(0, height))])
    return edition


def random_pairs(seed, count, many, height):
    """Pairs of editions over a few tokens, most of them near to each other, either way."""
    source = random.Random(seed)
    found = []
    for _ in range(count):
        tokens = source.sample(TOKENS, source.randint(2, 5))
        elder = random_edition(source, tokens, source.randint(1, many), source.randint(1, height))
        if source.random() < 0.85:
            newer = mutated(source, elder, tokens, height, source.randint(1, 4))
        else:
            newer = random_edition(source, tokens, source.randint(1, many), height)
        found.append((newer, elder) if source.random() < 0.3 else (elder, newer))
    return found


def stock_pairs(seed, count, many, height):
    """Pairs of editions of one stock."""
    source = random.Random(seed)
    found = []
    for _ in range(count):
        tokens = source.sample(TOKENS, source.randint(2, 5))
        elder = random_edition(source, tokens, source.randint(1, many), height)
        found.append((elder, with_other_levels(source, elder, height, source.randint(0, 3))))
    return found


def told(elder, newer):
    """What two editions are, for a test that fails."""
    return (elder.forms(), elder.hard(), newer.forms(), newer.hard())
