"""Whether two editions read all texts alike: reduced tables and normal editions."""

from keptreadings.changing import with_levels
from keptreadings.editions import Edition, require_edition
from keptreadings.errors import InvalidEdition
from keptreadings.kept import is_kept_text
from keptreadings.patterns import HOLE
from keptreadings.reading import read
from keptreadings.reduced import comparisons, least_levels, reduced_rows
from keptreadings.runs import tokens_of
from keptreadings.tokens import is_text
from keptreadings.trees import all_parts, is_leaf

MOST_FORMS = 2


def reduced_table(edition):
    """The ascending list of the tuples that tell what the levels of an edition mean."""
    require_edition(edition)
    return reduced_rows(edition.grammar)


def have_one_stock(one, other):
    """Whether two editions have the same patterns and the same hard words."""
    return one.grammar.patterns() == other.grammar.patterns() and one.hard() == other.hard()


def require_one_stock(one, other):
    require_edition(one)
    require_edition(other)
    if not have_one_stock(one, other):
        raise InvalidEdition(other)


def are_alike(one, other):
    """Whether each of two editions reads all texts that the other one reads to the same tree."""
    require_edition(one)
    require_edition(other)
    return have_one_stock(one, other) and reduced_table(one) == reduced_table(other)


def unlike_row(one, other):
    """The first tuple that stands in just one of two reduced tables, None if there is none."""
    require_one_stock(one, other)
    table, rows = reduced_table(one), reduced_table(other)
    lone = [row for row in table if row not in rows] + [row for row in rows if row not in table]
    return min(lone) if lone else None


def two_form_texts(edition):
    """The texts of a form in a hole of another one, with numbers in all other holes."""
    patterns = edition.grammar.patterns()
    texts = []
    for upper in patterns:
        for at, item in enumerate(upper):
            if item == HOLE:
                ahead, behind = tokens_of(upper[:at]), tokens_of(upper[at + 1:])
                texts.extend([ahead + tokens_of(lower) + behind for lower in patterns])
    return texts


def has_few_forms(edition, text):
    """Whether a text is not read by an edition, or to a tree of at most two forms."""
    outcome = read(edition, text)
    if outcome[0] == "fault":
        return True
    return len([part for _, part in all_parts(outcome[1]) if not is_leaf(part)]) <= MOST_FORMS


def parts_by_two_forms(one, other, text):
    """Whether a text parts one of two editions from the other, and neither reads more than two forms."""
    if is_kept_text(one, other, text) and is_kept_text(other, one, text):
        return False
    return has_few_forms(one, text) and has_few_forms(other, text)


def two_form_text(one, other):
    """A text of at most two forms that parts one of two editions from the other, None if they are alike."""
    require_one_stock(one, other)
    for text in two_form_texts(one):
        if parts_by_two_forms(one, other, text):
            return text
    return None


def is_two_form_text(one, other, value):
    """Whether any object is a text of at most two forms that parts one of two editions from the other."""
    require_one_stock(one, other)
    return is_text(value) and parts_by_two_forms(one, other, value)


def normal_levels(edition):
    """The lowest levels with the reduced table of an edition, and for each key the rule that asks for it."""
    return least_levels(list(edition.grammar.levels), comparisons(edition.grammar))


def normal(edition):
    """The edition of the same stock and reduced table whose levels are as low as can be."""
    require_edition(edition)
    levels, _ = normal_levels(edition)
    return Edition([with_levels(form, levels) for form in edition.forms()], edition.hard())


def height(edition):
    """The greatest level in the normal edition."""
    require_edition(edition)
    levels, _ = normal_levels(edition)
    return max(list(levels.values()), default=0)


def height_chain(edition):
    """A list of keys each above the one ahead of it, of which as many say more as the height is."""
    require_edition(edition)
    levels, causes = normal_levels(edition)
    top = height(edition)
    chain = [key for key in sorted(list(levels)) if levels[key] == top][:1]
    while chain and chain[0] in causes:
        chain = [causes[chain[0]][0]] + chain
    return chain


def is_height_chain(edition, value):
    """Whether any object is a list of keys by which the height is told."""
    top = height(edition)
    keys = list(edition.grammar.levels)
    if not isinstance(value, list) or not all([key in keys for key in value]):
        return False
    if not value:
        return not keys
    steps = {(lower, upper): step for lower, upper, step in comparisons(edition.grammar)}
    pairs = list(zip(value, value[1:]))
    return all([pair in steps for pair in pairs]) and sum([steps[pair] for pair in pairs]) == top
