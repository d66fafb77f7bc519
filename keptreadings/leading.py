"""One text for several editions, texts led over to a newer edition, and brackets that can go."""

from keptreadings.editions import require_edition, require_some_editions
from keptreadings.marks import are_marks, is_read_so, is_way
from keptreadings.needs import are_apart_ways, fewest_on, is_on, ways_apart, ways_of
from keptreadings.pairs import Marking, closings, marking_in, text_with
from keptreadings.reading import read
from keptreadings.spelling import are_ascending_counts
from keptreadings.tokens import is_text
from keptreadings.trees import require_forms_of, require_tree


def ways_in_any(editions, tree):
    """The ascending list of the ways of a tree in any of some editions, all of which have its forms."""
    require_some_editions(editions)
    require_tree(tree)
    for edition in editions:
        require_forms_of(edition, tree)
    return sorted(set([way for edition in editions for way in ways_of(edition.grammar, tree)]))


def needed_for_all(editions, tree):
    """The least number of marks with which one text reads to a tree in each of some editions."""
    return len(ways_apart(ways_in_any(editions, tree)))


def one_for_all(editions, tree):
    """Fewest marks with which one text reads to a tree in each of some editions."""
    return sorted([upper for upper, _ in ways_apart(ways_in_any(editions, tree))])


def are_for_all(editions, tree, value):
    """Whether any object is a list of fewest marks with which one text reads to a tree in each edition."""
    fewest = needed_for_all(editions, tree)
    if not are_marks(tree, value) or len(value) != fewest:
        return False
    return all([is_read_so(edition, tree, value) for edition in editions])


def apart_for_all(editions, tree):
    """As many ways of a tree in any of some editions as there must be marks, no two of which meet."""
    return ways_apart(ways_in_any(editions, tree))


def are_apart_for_all(editions, tree, value):
    """Whether any object is a list as of apart_for_all, in any order."""
    ways = ways_in_any(editions, tree)
    if not isinstance(value, list) or len(value) != len(ways_apart(ways)):
        return False
    return all([is_way(tree, way) and way in ways for way in value]) and are_apart_ways(value)


def marks_in(edition, text):
    """The tree of a text, its pairs of brackets by their ascending paths, and the paths of its quotes."""
    marking = marking_in(edition, text)
    return (marking.tree, marking.pairs(), list(marking.quotes))


def is_met(grammar, marking, way):
    """Whether a way of a need of a marking's tree has a pair or a quote that meets the need."""
    if any([is_on(way, path) for path in marking.quotes]):
        return True
    # A hard word in brackets still begins a form.
    part = marking.parts[way[1]]
    if part[0] == "name" and part[1] in grammar.hard_words:
        return False
    return any([is_on(way, path) for path in marking.openings])


def marking_to_lead(elder, newer, text):
    """The marking of a text that the elder reads, to a tree whose forms the newer has."""
    require_edition(elder)
    require_edition(newer)
    marking = marking_in(elder, text)
    require_forms_of(newer, marking.tree)
    return marking


def further_marks(newer, marking):
    """The paths of the fewest marks that a text needs besides its own ones to be led over."""
    ways = [way for way in ways_of(newer.grammar, marking.tree) if not is_met(newer.grammar, marking, way)]
    return [upper for upper, _ in ways_apart(ways)]


def led_price(elder, newer, text):
    """How many marks a text needs besides its own ones so that the newer reads it as the elder does."""
    return len(further_marks(newer, marking_to_lead(elder, newer, text)))


def led_over(elder, newer, text):
    """A text put in the place of one, with as few marks as can be, that the newer reads as the elder does."""
    marking = marking_to_lead(elder, newer, text)
    pairs, quotes = marking.pairs(), {path: True for path in marking.quotes}
    for path in further_marks(newer, marking):
        if marking.parts[path][0] == "name":
            quotes[path] = True
        else:
            pairs[path] = pairs.get(path, 0) + 1
    return text_with(marking.tree, (), pairs, quotes)


def price_of(old, new):
    """How many marks a marking has besides those of another one, None if it lacks one of them."""
    pairs, more = old.pairs(), new.pairs()
    if any([pairs[path] > more.get(path, 0) for path in pairs]):
        return None
    if any([path not in new.quotes for path in old.quotes]):
        return None
    many = sum(list(more.values())) + len(new.quotes)
    return many - sum(list(pairs.values())) - len(old.quotes)


def is_led_over(elder, newer, text, value):
    """Whether any object is a text as of led_over."""
    marking = marking_to_lead(elder, newer, text)
    outcome = ("read", marking.tree)
    if not is_text(value) or read(elder, value) != outcome or read(newer, value) != outcome:
        return False
    return price_of(marking, Marking(marking.tree, value)) == len(further_marks(newer, marking))


def idle_openings(edition, text):
    """The ascending positions of the opening brackets of as many pairs as can go at once."""
    marking = marking_in(edition, text)
    ways = ways_of(edition.grammar, marking.tree)
    ways = [way for way in ways if not any([is_on(way, path) for path in marking.quotes])]
    needed = [marking.openings[path][0] for path in fewest_on(ways, marking.openings)]
    return [at for at in sorted(list(closings(text))) if at not in needed]


def idle_number(edition, text):
    """How many pairs of a text can go at once, at most, so that it still reads to the same tree."""
    return len(idle_openings(edition, text))


def idle_pairs(edition, text):
    """The ascending positions of the opening brackets of so many such pairs."""
    return idle_openings(edition, text)


def are_idle_pairs(edition, text, value):
    """Whether any object is a list as of idle_pairs."""
    many = idle_number(edition, text)
    closed = closings(text)
    if not are_ascending_counts(value) or len(value) != many or not all([at in closed for at in value]):
        return False
    gone = value + [closed[at] for at in value]
    left = [token for at, token in enumerate(text) if at not in gone]
    return read(edition, left) == read(edition, text)
