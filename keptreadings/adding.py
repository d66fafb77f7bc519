"""Forms that are added to an edition, or taken out: which texts this breaks, and for which reasons."""

from keptreadings.editions import Edition, is_form, require_edition
from keptreadings.errors import InvalidForm, InvalidForms, InvalidPattern, InvalidReason, InvalidToken, InvalidWords
from keptreadings.kept import is_kept_text, kept
from keptreadings.partings import shortest_parting
from keptreadings.patterns import HOLE, first_tokens
from keptreadings.reading import taken
from keptreadings.reasoning import lost_names, reasons_of, starts_of_reason
from keptreadings.runs import runs_alone, runs_without
from keptreadings.spelling import are_words
from keptreadings.tokens import is_text


def is_new_form(edition, value):
    """Whether any object is a form whose pattern an edition has not."""
    return is_form(value) and value[0] not in edition.grammar.patterns()


def require_new_forms(edition, forms):
    require_edition(edition)
    if not isinstance(forms, list) or not all([is_new_form(edition, form) for form in forms]):
        raise InvalidForms(forms)


def require_new_form(edition, form):
    require_edition(edition)
    if not is_new_form(edition, form):
        raise InvalidForm(form)


def require_new_words(edition, forms, hard):
    """Raise the error for what is no list of words each of which begins an added head and no other one."""
    if not are_words(hard):
        raise InvalidWords(hard)
    added_ones = first_tokens([form[0] for form in forms])
    old_ones = first_tokens(edition.grammar.patterns())
    if not all([word in added_ones and word not in old_ones for word in hard]):
        raise InvalidWords(hard)


def grown(edition, forms, hard):
    """An edition with forms put in and words made hard, if this is sound."""
    return Edition(edition.forms() + forms, edition.hard() + hard)


def added(edition, forms, hard):
    """The edition with some forms put in and some of their first words made hard."""
    require_new_forms(edition, forms)
    require_new_words(edition, forms, hard)
    return grown(edition, forms, hard)


def added_alone(edition, form, hard):
    """The edition with one form put in."""
    require_new_form(edition, form)
    require_new_words(edition, [form], hard)
    return grown(edition, [form], hard)


def reasons(edition, form, hard):
    """The ascending list of all reasons for which a form that is added alone breaks texts."""
    newer = added_alone(edition, form, hard)
    return reasons_of(runs_alone(edition.grammar), newer.grammar, form[0], hard)


def shown(edition, form, hard, reason):
    """A text that a form breaks for a reason, at the token that the reason tells."""
    newer = added_alone(edition, form, hard)
    runs = runs_alone(edition.grammar)
    if reason not in reasons_of(runs, newer.grammar, form[0], hard):
        raise InvalidReason(reason)
    return runs.routes.cheapest(starts_of_reason(runs, reason))


def first_taken_unlike(elder, newer, text):
    """The position of the first token that two editions take unlike, the number of tokens if there is none."""
    hows, others = taken(elder, text), taken(newer, text)
    for at in range(len(text)):
        if hows[at:at + 1] != others[at:at + 1]:
            return at
    return len(text)


def is_shown(edition, form, hard, reason, value):
    """Whether any object is a text that a form breaks for a reason, at the token that the reason tells."""
    newer = added_alone(edition, form, hard)
    if reason not in reasons(edition, form, hard):
        raise InvalidReason(reason)
    if not is_text(value) or is_kept_text(edition, newer, value):
        return False
    at = first_taken_unlike(edition, newer, value)
    if reason[0] == "behind":
        return taken(newer, value)[at:at + 1] == [("form", reason[1] + (reason[2],))]
    told = list(reason[1:])
    return value[at:at + len(told)] == told


def own_tokens(edition, pattern):
    """The fixed tokens of a pattern behind the longest beginning that it shares with one of an edition."""
    known = [other[:many] for other in edition.grammar.patterns() for many in range(1, len(other) + 1)]
    shared = max([many for many in range(len(pattern) + 1) if many == 0 or pattern[:many] in known])
    return [item for item in pattern[shared:] if item != HOLE]


def stand_apart(edition, forms, hard):
    """Whether the tokens that added forms bring are new, and in one of these forms alone."""
    added(edition, forms, hard)
    old_ones = edition.grammar.fixed()
    for form in forms:
        for token in own_tokens(edition, form[0]):
            users = [other for other in forms if token in other[0]]
            if token in old_ones or len(users) > 1:
                return False
    return True


def is_harmful(edition, form, hard):
    """Whether a form that is added alone, with those of some words that begin it, does not keep all texts."""
    own_hard = [word for word in hard if word == form[0][0]]
    return not kept(edition, grown(edition, [form], own_hard))


def harmful(edition, forms, hard):
    """The ascending positions of the forms that do not keep all texts if they are added alone."""
    added(edition, forms, hard)
    return [at for at, form in enumerate(forms) if is_harmful(edition, form, hard)]


def softened(edition, word):
    """A shortest text that is broken if a hard word is made soft, None if all texts are kept."""
    require_edition(edition)
    if word not in edition.hard():
        raise InvalidToken(word)
    newer = Edition(edition.forms(), [other for other in edition.hard() if other != word])
    return shortest_parting(edition.grammar, newer.grammar, [])


def require_patterns(edition, patterns):
    """Raise the error for what is no list of unlike patterns of an edition."""
    require_edition(edition)
    known = edition.grammar.patterns()
    if not isinstance(patterns, list) or not all([pattern in known for pattern in patterns]):
        raise InvalidPattern(patterns)
    if len(set(patterns)) != len(patterns):
        raise InvalidPattern(patterns)


def taken_out(edition, patterns):
    """The edition without some forms; hard words that begin no head any more are free."""
    require_patterns(edition, patterns)
    forms = [form for form in edition.forms() if form[0] not in patterns]
    firsts = first_tokens([form[0] for form in forms])
    return Edition(forms, [word for word in edition.hard() if word in firsts])


def lost_reasons(edition, patterns):
    """The ascending reasons for which texts without some forms are not kept when these are taken out."""
    newer = taken_out(edition, patterns)
    return lost_names(runs_without(edition.grammar, patterns), newer.grammar)
