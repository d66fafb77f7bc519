"""What the levels of an edition mean: its reduced table, and the comparisons in which this is told."""

from keptreadings.patterns import HOLE, own_key
from keptreadings.spelling import GREATEST_LEVEL


def catches(grammar, pattern, token):
    """Whether a pattern ends with a hole whose level is at most the own level of a tail token."""
    return pattern[-1] == HOLE and grammar.levels[("tail", token)] >= grammar.levels[("hole", pattern)]


def takes(grammar, pattern, token):
    """Whether a form of a pattern would take a token that stands right behind it."""
    if token in grammar.follows[pattern][2]:
        return True
    return ("tail", token) in grammar.levels and catches(grammar, pattern, token)


def own_keys(grammar):
    """The ascending list of the keys of own levels."""
    return sorted([key for key in grammar.levels if key[0] in ("head", "tail")])


def hole_places(grammar):
    """The ascending list of the places that end with a hole."""
    return sorted([place for place in grammar.follows if place[-1] == HOLE])


def uncaught_pairs(grammar):
    """The pairs of a pattern and a tail token that it does not catch, ascending."""
    pairs = [(pattern, token) for pattern in grammar.patterns() for token in grammar.tails()]
    return [(pattern, token) for pattern, token in pairs if not catches(grammar, pattern, token)]


def reduced_rows(grammar):
    """The ascending list of the tuples of the reduced table."""
    levels = grammar.levels
    lefts = [("left", pattern, token) for pattern, token in uncaught_pairs(grammar)
             if levels[("left", token)] <= levels[own_key(pattern)]]
    ons = [("on", place, key) for place in hole_places(grammar) for key in own_keys(grammar)
           if levels[key] >= levels[("hole", place)]]
    return lefts + ons


def comparisons(grammar):
    """The tuples (lower, upper, step): that the level at one key is at least so far above another's."""
    table = {row: True for row in reduced_rows(grammar)}
    found = []
    for place in hole_places(grammar):
        for key in own_keys(grammar):
            hole = ("hole", place)
            found.append((hole, key, 0) if ("on", place, key) in table else (key, hole, 1))
    for pattern, token in uncaught_pairs(grammar):
        own, left = own_key(pattern), ("left", token)
        found.append((left, own, 0) if ("left", pattern, token) in table else (own, left, 1))
    return found


def least_levels(keys, rules):
    """The lowest levels, from 0 on, that comply with comparisons; with each key the rule that asks for it.

    If no levels up to the greatest one do, some of these are above it.
    """
    levels = {key: 0 for key in keys}
    causes = {}
    is_settled = False
    while not is_settled:
        is_settled = True
        for rule in rules:
            lower, upper, step = rule
            if levels[upper] < levels[lower] + step:
                levels[upper] = levels[lower] + step
                causes[upper] = rule
                is_settled = False
                if levels[upper] > GREATEST_LEVEL:
                    return (levels, causes)
    return (levels, causes)
