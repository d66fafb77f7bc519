"""One edition that keeps all texts of several ones, and the quarrels for which there is none."""

from keptreadings.alike import have_one_stock
from keptreadings.changing import subsets
from keptreadings.editions import Edition, require_some_editions
from keptreadings.errors import InvalidEditions
from keptreadings.reduced import least_levels
from keptreadings.rooms import used_rows, with_all_levels
from keptreadings.spelling import GREATEST_LEVEL, is_count
from keptreadings.usage import is_so, key_comparison


def require_one_stock_of_all(editions):
    require_some_editions(editions)
    if not all([have_one_stock(editions[0], edition) for edition in editions]):
        raise InvalidEditions(editions)


def rules_of(rows):
    return [key_comparison(row) for row in rows]


def all_rows(editions):
    """The ascending list of the rows that any of some editions uses."""
    require_one_stock_of_all(editions)
    return sorted(set([row for edition in editions for row in used_rows(edition)]))


def keep_within(levels):
    """Whether no level is above the greatest one."""
    return max(list(levels.values()), default=0) <= GREATEST_LEVEL


def least_agreeing(editions):
    """The edition with the lowest levels that keeps all texts of each of some editions, or None."""
    rules = rules_of(all_rows(editions))
    levels, _ = least_levels(list(editions[0].grammar.levels), rules)
    return with_all_levels(editions[0], levels) if keep_within(levels) else None


def greatest_agreeing(editions):
    """The edition with the highest levels that keeps all texts of each of some editions, or None."""
    # How far levels are below the greatest one complies with the rules turned round.
    rules = [(upper, lower, step) for lower, upper, step in rules_of(all_rows(editions))]
    depths, _ = least_levels(list(editions[0].grammar.levels), rules)
    if not keep_within(depths):
        return None
    return with_all_levels(editions[0], {key: GREATEST_LEVEL - depths[key] for key in depths})


def is_agreeing(editions, value):
    """Whether any object is an edition that keeps all texts of each of some editions."""
    rows = all_rows(editions)
    if not isinstance(value, Edition) or not have_one_stock(editions[0], value):
        return False
    return all([is_so(row, value.grammar.levels) for row in rows])


def rules_behind(causes, key):
    """The rules that raised the level at a key, the first one first: a chain to it, or a ring."""
    keys, rules = [key], []
    while keys[-1] in causes:
        rule = causes[keys[-1]]
        rules = [rule] + rules
        if rule[0] in keys:
            # What has led down to this key, from it, is the ring.
            return rules[:len(keys) - keys.index(rule[0])]
        keys.append(rule[0])
    return rules


def quarrel(editions):
    """A list of rows with the positions of editions that use them, which no levels keep, or None."""
    require_one_stock_of_all(editions)
    users = {}
    for at, edition in enumerate(editions):
        for row in used_rows(edition):
            users.setdefault(key_comparison(row), (at, row))
    levels, causes = least_levels(list(editions[0].grammar.levels), list(users))
    if keep_within(levels):
        return None
    highest = [key for key in sorted(list(levels)) if levels[key] > GREATEST_LEVEL][0]
    return [users[rule] for rule in rules_behind(causes, highest)]


def is_used_at(rows, value):
    """Whether any object is a tuple of a position in a list of lists of rows and a row of that one."""
    if not isinstance(value, tuple) or len(value) != 2 or not is_count(value[0]) or value[0] >= len(rows):
        return False
    return value[1] in rows[value[0]]


def is_quarrel(editions, value):
    """Whether any object is a list as of quarrel."""
    require_one_stock_of_all(editions)
    rows = [used_rows(edition) for edition in editions]
    if not isinstance(value, list) or not value or not all([is_used_at(rows, thing) for thing in value]):
        return False
    rules = rules_of([row for _, row in value])
    if not all([rule[1] == later[0] for rule, later in zip(rules, rules[1:])]):
        return False
    steps = sum([rule[2] for rule in rules])
    return steps > GREATEST_LEVEL or (steps > 0 and rules[0][0] == rules[-1][1])


def is_within_lot(lot, other):
    return all([at in other for at in lot])


def quarrelling(editions):
    """The ascending list of the least lots of editions with which no edition agrees."""
    require_one_stock_of_all(editions)
    rows = [used_rows(edition) for edition in editions]
    keys = list(editions[0].grammar.levels)
    found = []
    for lot in sorted(subsets(list(range(len(editions)))), key=lambda row: len(row)):
        if not any([is_within_lot(other, lot) for other in found]):
            levels, _ = least_levels(keys, rules_of([row for at in lot for row in rows[at]]))
            if not keep_within(levels):
                found.append(lot)
    return sorted(found)
