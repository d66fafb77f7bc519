"""What of a text matters to its surroundings: its face.

A face is a tuple (own, low, is_late, caught): the level that the text has as a value, the lowest own level on
the left edge of its tree, whether its first token begins no value, and the ascending tokens that it would
take, or that would mean its last word, right behind it. Brackets hide all that is in them.
"""

from keptreadings.deeds import LEAF_LEVEL, asked_level, begins_form, begins_value, is_soft, own_level
from keptreadings.endings import shorter
from keptreadings.needs import Layout
from keptreadings.patterns import HOLE, is_tail
from keptreadings.reduced import takes
from keptreadings.spelling import NUMBER, is_word
from keptreadings.trees import is_leaf


def plain_face():
    """The face of a number, and of whatever stands in brackets."""
    return (LEAF_LEVEL, LEAF_LEVEL, False, ())


def tokens_behind(grammar):
    """The fixed tokens that may stand right behind a value."""
    return [token for token in grammar.later_tokens() if token not in (")", "")]


def word_face(grammar, word):
    """The face of a word that is no hard one."""
    caught = [token for token in tokens_behind(grammar) if begins_form(grammar, word, token)]
    return (LEAF_LEVEL, LEAF_LEVEL, not begins_value(grammar, word), tuple(caught))


def caught_by(grammar, pattern):
    return [token for token in tokens_behind(grammar) if takes(grammar, pattern, token)]


def joined(tokens, others):
    return tuple(sorted(set(list(tokens) + list(others))))


def form_face(grammar, pattern, left, right):
    """The face of a form by those of its first and its last part, where they stand at its ends."""
    own = own_level(grammar, pattern)
    low, late = own, False
    if is_tail(pattern):
        low, late = min(own, left[1]), left[2]
    caught = caught_by(grammar, pattern)
    return (own, low, late, joined(caught, right[3]) if pattern[-1] == HOLE else tuple(caught))


def face_of(grammar, marking):
    """The face of a text by its marking."""
    layout = Layout(marking.tree)
    faces = {}
    # What a part shows rests on what those within it show.
    for path in reversed(list(layout.parts)):
        part = layout.parts[path]
        if path in marking.openings or path in marking.quotes or part[0] == "number":
            faces[path] = plain_face()
        elif is_leaf(part):
            faces[path] = word_face(grammar, part[1])
        else:
            many = len(part[1])
            left, right = [faces[path + (at,)] if many else plain_face() for at in (0, many - 1)]
            faces[path] = form_face(grammar, part[0], left, right)
    return faces[()]


def fits_left(grammar, pattern, face):
    """Whether a text with a face can be the left part of a tail."""
    return face[0] >= grammar.levels[("left", pattern[1])] and pattern[1] not in face[3]


def fits_right(grammar, pattern, face):
    """Whether a text with a face can be in the hole with which a pattern ends."""
    return face[1] >= grammar.levels[("hole", pattern)] and not (face[2] and hides(grammar, pattern))


def hides(grammar, place):
    """Whether a soft word is right ahead of the hole of a place, and has to be read as a form's."""
    return len(place) == 2 and is_soft(grammar, place[0])


def leaf_faces(grammar):
    """The faces of names and numbers, each with a shortest text that has it."""
    found = {plain_face(): [NUMBER]}
    for word in [token for token in grammar.fixed() if is_word(token) and token not in grammar.hard_words]:
        found.setdefault(word_face(grammar, word), [word])
    return found


def ends_of(grammar, pattern, faces):
    """The faces of the first and the last parts of forms of a pattern that matter, with shortest texts.

    Where no part stands at an end, the tokens there are the pattern's own, and told with the middle ones.
    """
    lefts, rights = {plain_face(): []}, {plain_face(): []}
    if is_tail(pattern):
        lefts = {}
        for face in [face for face in faces if fits_left(grammar, pattern, face)]:
            shown = (LEAF_LEVEL, face[1], face[2], ())
            lefts[shown] = shorter(faces[face], lefts.get(shown))
    if pattern[-1] == HOLE:
        rights = {}
        for face in [face for face in faces if fits_right(grammar, pattern, face)]:
            shown = (LEAF_LEVEL, LEAF_LEVEL, False, face[3])
            rights[shown] = shorter(faces[face], rights.get(shown))
    return (lefts, rights)


def form_faces(grammar, pattern, faces):
    """The faces of forms of a pattern whose parts have known faces, each with a shortest text."""
    lefts, rights = ends_of(grammar, pattern, faces)
    middle = [NUMBER if item == HOLE else item for item in pattern]
    middle = middle[1 if is_tail(pattern) else 0:len(pattern) - (1 if pattern[-1] == HOLE else 0)]
    found = {}
    for left in lefts:
        for right in rights:
            face = form_face(grammar, pattern, left, right)
            found[face] = shorter(lefts[left] + middle + rights[right], found.get(face))
    return found


def all_faces(grammar):
    """The faces of all texts that are read, each with a shortest text that has it."""
    faces = leaf_faces(grammar)
    is_settled = False
    while not is_settled:
        is_settled = True
        for pattern in grammar.patterns():
            more = form_faces(grammar, pattern, faces)
            for face in more:
                if face not in faces or len(more[face]) < len(faces[face]):
                    faces[face] = more[face]
                    is_settled = False
    return faces


def fails(grammar, face, look):
    """Whether texts with a face do not fit the surroundings that have a look."""
    hole, token, is_taken = look
    frame = ("form", hole) if hole[-1:] == (HOLE,) else ("bottom",)
    if face[1] < asked_level(grammar, frame) or token in face[3]:
        return True
    if is_taken and face[0] < grammar.levels[("left", token)]:
        return True
    return face[2] and frame[0] == "form" and hides(grammar, hole)
