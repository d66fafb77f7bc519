"""Changes by their form, what they make of forms and hard words, and the fewest of them."""

from keptreadings.patterns import is_key, is_pattern, is_well_formed, key_levels, keys_of
from keptreadings.spelling import is_level, is_word


def is_change(value):
    """Whether any object is a change by its form."""
    if not isinstance(value, tuple) or len(value) not in (2, 3):
        return False
    if len(value) == 3:
        return value[0] == "level" and is_key(value[1]) and is_level(value[2])
    if value[0] == "put":
        return is_well_formed(value[1])
    if value[0] == "out":
        return is_pattern(value[1])
    return value[0] in ("hard", "soft") and is_word(value[1])


def are_by_form(value):
    """Whether any object is a list of changes by their form."""
    return isinstance(value, list) and all([is_change(change) for change in value])


def with_level(form, key, level):
    """The form with a level at one of its keys, if it has this key."""
    levels = [level if own == key else old for own, old in key_levels(form)]
    return (form[0], levels[0], tuple(levels[1:]))


def with_levels(form, levels):
    """The form with the levels that a dictionary has for its keys."""
    own = [levels[key] for key in keys_of(form[0])]
    return (form[0], own[0], tuple(own[1:]))


def fits(forms, hard, change):
    """Whether a change fits forms, no pattern of which stands twice, and hard words."""
    patterns = [form[0] for form in forms]
    if change[0] == "put":
        return change[1][0] not in patterns
    if change[0] == "out":
        return change[1] in patterns
    if change[0] == "level":
        return any([change[1] in keys_of(pattern) for pattern in patterns])
    return (change[1] in hard) == (change[0] == "soft")


def forms_by(forms, change):
    """The forms that a change makes of some forms that it fits."""
    if change[0] == "put":
        return forms + [change[1]]
    if change[0] == "out":
        return [form for form in forms if form[0] != change[1]]
    if change[0] == "level":
        return [with_level(form, change[1], change[2]) for form in forms]
    return forms


def hard_by(hard, change):
    """The hard words that a change makes of some hard words that it fits."""
    if change[0] == "hard":
        return hard + [change[1]]
    if change[0] == "soft":
        return [word for word in hard if word != change[1]]
    return hard


def first_misfit(forms, hard, changes):
    """The first change that does not fit what those ahead of it made, or None."""
    for change in changes:
        if not fits(forms, hard, change):
            return change
        forms = forms_by(forms, change)
        hard = hard_by(hard, change)
    return None


def made_by(forms, hard, changes):
    """The forms and the hard words that changes make, all of which fit."""
    for change in changes:
        forms = forms_by(forms, change)
        hard = hard_by(hard, change)
    return (forms, hard)


def keys_to_change(patterns, old, new):
    """The ascending keys of these patterns that have unlike levels in two dictionaries."""
    keys = [key for pattern in patterns for key in keys_of(pattern) if old[key] != new[key]]
    return sorted(set(keys))


def subsets(items):
    found = [[]]
    for item in items:
        found = found + [subset + [item] for subset in found]
    return found


def best_renewed(patterns, old, new):
    """The patterns that cost least if they go out and come anew, instead of their keys' changes.

    A pattern that is renewed costs two changes and frees its keys only if all that share them are
    renewed, too: no choice one by one is the best one, so all choices are compared.
    """
    touched = [pattern for pattern in patterns if keys_to_change([pattern], old, new)]
    best, least = [], len(keys_to_change(touched, old, new))
    for renewed in subsets(touched):
        staying = [pattern for pattern in touched if pattern not in renewed]
        price = 2 * len(renewed) + len(keys_to_change(staying, old, new))
        if price < least:
            best, least = renewed, price
    return best


def fewest_changes(old_forms, old_hard, new_forms, new_hard):
    """Fewest changes from sound forms and hard words to others."""
    old = {key: level for form in old_forms for key, level in key_levels(form)}
    new = {key: level for form in new_forms for key, level in key_levels(form)}
    before = [form[0] for form in old_forms]
    behind = [form[0] for form in new_forms]
    both = [pattern for pattern in before if pattern in behind]
    renewed = best_renewed(both, old, new)
    staying = [pattern for pattern in both if pattern not in renewed]
    # Levels are set while only what stays is there: no key is touched for more than that.
    outs = [("out", pattern) for pattern in before if pattern not in staying]
    levels = [("level", key, new[key]) for key in keys_to_change(staying, old, new)]
    puts = [("put", form) for form in new_forms if form[0] not in staying]
    softs = [("soft", word) for word in old_hard if word not in new_hard]
    hards = [("hard", word) for word in new_hard if word not in old_hard]
    return outs + levels + puts + softs + hards
