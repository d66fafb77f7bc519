"""Which texts can stand for one another, in all surroundings."""

from keptreadings.editions import require_edition
from keptreadings.errors import InvalidLook, InvalidSurroundings
from keptreadings.faces import all_faces, face_of, fails
from keptreadings.needs import Layout
from keptreadings.outlooks import around_looks, is_surroundings, look_of, size_of
from keptreadings.pairs import bare_positions, marking_in
from keptreadings.reading import read
from keptreadings.tokens import is_text


def is_read_within(edition, text, tree, surroundings):
    """Whether a text is read in surroundings as one value, to the tree to which it is read alone."""
    ahead, behind = surroundings
    outcome = read(edition, ahead + text + behind)
    if outcome[0] == "fault":
        return False
    many = bare_positions(ahead)[-1]
    span = (many, many + bare_positions(text)[-1])
    layout = Layout(outcome[1])
    found = [path for path in layout.parts if (layout.begins[path], layout.ends[path]) == span]
    return len(found) == 1 and layout.parts[found[0]] == tree


def fits(edition, text, surroundings):
    """Whether a text fits surroundings."""
    tree = marking_in(edition, text).tree
    if not is_surroundings(surroundings):
        raise InvalidSurroundings(surroundings)
    return is_read_within(edition, text, tree, surroundings)


def looks(edition):
    """The ascending list of the looks that some surroundings have."""
    require_edition(edition)
    return list(around_looks(edition.grammar))


def require_look(known, look):
    # True and False are not 1 and 0.
    if not isinstance(look, tuple) or len(look) != 3 or not isinstance(look[2], bool) or look not in list(known):
        raise InvalidLook(look)


def copied_surroundings(surroundings):
    return (list(surroundings[0]), list(surroundings[1]))


def surroundings_of(edition, look):
    """Shortest surroundings that have a look."""
    require_edition(edition)
    around = around_looks(edition.grammar)
    require_look(around, look)
    return copied_surroundings(around[look])


def are_surroundings_of(edition, look, value):
    """Whether any object is shortest surroundings that have a look."""
    size = size_of(surroundings_of(edition, look))
    return is_surroundings(value) and size_of(value) == size and look_of(edition, value) == look


def passes(edition, text, look):
    """Whether a text fits surroundings that have a look, and so all of them."""
    marking = marking_in(edition, text)
    require_look(around_looks(edition.grammar), look)
    return not fails(edition.grammar, face_of(edition.grammar, marking), look)


def looks_failed(edition, marking):
    face = face_of(edition.grammar, marking)
    return [look for look in around_looks(edition.grammar) if fails(edition.grammar, face, look)]


def failed_looks(edition, text):
    """The ascending list of the looks that a text does not pass."""
    return looks_failed(edition, marking_in(edition, text))


def looks_that_part(edition, one, other):
    """The ascending list of the looks that just one of two texts passes."""
    first, second = marking_in(edition, one), marking_in(edition, other)
    failed, others = looks_failed(edition, first), looks_failed(edition, second)
    return sorted([look for look in failed if look not in others] + [look for look in others if look not in failed])


def are_exchangeable(edition, one, other):
    """Whether each surroundings that one of two texts fits the other one fits, too."""
    return not looks_that_part(edition, one, other)


def parting_surroundings(edition, one, other):
    """Shortest surroundings that just one of two texts fits, None if they are exchangeable."""
    parting = looks_that_part(edition, one, other)
    if not parting:
        return None
    around = around_looks(edition.grammar)
    return copied_surroundings(min([around[look] for look in parting], key=size_of))


def are_parting_surroundings(edition, one, other, value):
    """Whether any object is shortest surroundings that just one of two texts fits."""
    shortest = parting_surroundings(edition, one, other)
    if shortest is None or not is_surroundings(value) or size_of(value) != size_of(shortest):
        return False
    return fits(edition, one, value) != fits(edition, other, value)


def texts_by_classes(edition):
    """For the looks that texts fail a shortest text that fails just these."""
    require_edition(edition)
    faces = all_faces(edition.grammar)
    known = looks(edition)
    found = {}
    for face in sorted(list(faces), key=lambda row: len(faces[row])):
        failed = tuple([at for at, look in enumerate(known) if fails(edition.grammar, face, look)])
        found.setdefault(failed, faces[face])
    return found


def many_classes(edition):
    """How many classes of exchangeable texts there are."""
    return len(texts_by_classes(edition))


def class_texts(edition):
    """A list of texts, one of each class."""
    return list(texts_by_classes(edition).values())


def are_class_texts(edition, value):
    """Whether any object is a list of texts, one of each class."""
    many = many_classes(edition)
    if not isinstance(value, list) or len(value) != many or not all([is_text(text) for text in value]):
        return False
    if not all([read(edition, text)[0] == "read" for text in value]):
        return False
    failed = [failed_looks(edition, text) for text in value]
    return all([failed[at] not in failed[:at] for at in range(many)])
