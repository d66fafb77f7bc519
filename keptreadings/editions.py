"""Forms and editions, and the changes from one edition to another one."""

from keptreadings.changing import are_by_form, fewest_changes, first_misfit, is_change, made_by
from keptreadings.clashes import least_clash
from keptreadings.errors import InvalidChange, InvalidChanges, InvalidEdition, InvalidEditions
from keptreadings.errors import InvalidForms, InvalidWords, Unsound
from keptreadings.grammar import Grammar
from keptreadings.patterns import is_well_formed
from keptreadings.spelling import are_words


def is_form(value):
    """Whether any object is a form."""
    return is_well_formed(value)


def require_forms(forms):
    if not isinstance(forms, list) or not all([is_form(form) for form in forms]):
        raise InvalidForms(forms)


def require_words(words):
    if not are_words(words):
        raise InvalidWords(words)


def first_clash(forms, hard):
    """The first clash of a list of forms and a list of hard words, None if they are sound."""
    require_forms(forms)
    require_words(hard)
    return least_clash(forms, hard)


class Edition:
    """Sound forms and hard words, which never change."""

    def __init__(self, forms, hard):
        clash = first_clash(forms, hard)
        if clash is not None:
            raise Unsound(clash)
        self._forms = sorted(forms)
        self._hard = sorted(hard)
        self.grammar = Grammar(self._forms, self._hard)

    def __eq__(self, other):
        return isinstance(other, Edition) and self._forms == other._forms and self._hard == other._hard

    def forms(self):
        """The ascending list of the forms."""
        return list(self._forms)

    def hard(self):
        """The ascending list of the hard words."""
        return list(self._hard)


def require_edition(edition):
    if not isinstance(edition, Edition):
        raise InvalidEdition(edition)


def require_editions(editions):
    if not isinstance(editions, list) or not all([isinstance(edition, Edition) for edition in editions]):
        raise InvalidEditions(editions)


def require_some_editions(editions):
    """Raise the error for what is no list of editions, or an empty one."""
    require_editions(editions)
    if not editions:
        raise InvalidEditions(editions)


def numbers(edition):
    """The levels of an edition by their keys, ascending."""
    require_edition(edition)
    levels = edition.grammar.levels
    return {key: levels[key] for key in sorted(list(levels))}


def changed(edition, change):
    """The edition with a change."""
    require_edition(edition)
    if not is_change(change):
        raise InvalidChange(change)
    return changed_by(edition, [change])


def changed_by(edition, changes):
    """The edition with changes, one after the other; only the end has to be sound."""
    require_edition(edition)
    if not are_by_form(changes):
        raise InvalidChanges(changes)
    misfit = first_misfit(edition.forms(), edition.hard(), changes)
    if misfit is not None:
        raise InvalidChange(misfit)
    forms, hard = made_by(edition.forms(), edition.hard(), changes)
    return Edition(forms, hard)


def told_changes(elder, newer):
    """A list of the fewest changes that leads from one edition to the other."""
    require_edition(elder)
    require_edition(newer)
    return fewest_changes(elder.forms(), elder.hard(), newer.forms(), newer.hard())


def are_changes(elder, newer, value):
    """Whether any object is a list of the fewest changes from one edition to the other."""
    fewest = told_changes(elder, newer)
    if not are_by_form(value) or len(value) != len(fewest):
        return False
    if first_misfit(elder.forms(), elder.hard(), value) is not None:
        return False
    forms, hard = made_by(elder.forms(), elder.hard(), value)
    return sorted(forms) == newer.forms() and sorted(hard) == newer.hard()
