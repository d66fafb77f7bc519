"""Slow, plain writings of section 18, from readings alone."""

from itertools import product

from tests import naive
from tests.naive import Reading

FRESH = "zz"


def put_in_place(tree, other):
    """A tree with another one in the place of the name that stands nowhere else."""
    if tree == ("name", FRESH):
        return other
    if tree[0] in ("name", "number"):
        return tree
    return (tree[0], [put_in_place(part, other) for part in tree[1]])


def fits(edition, text, surroundings):
    """[90], by its bracket: with a name in the place of the text all is read as it is with the text."""
    ahead, behind = surroundings
    alone, here = naive.read(edition, text), naive.read(edition, ahead + text + behind)
    named = naive.read(edition, ahead + [FRESH] + behind)
    if "fault" in (here[0], named[0]):
        return False
    return put_in_place(named[1], alone[1]) == here[1]


def has_left_child(tree, token):
    """Whether a tail by a token has the name that stands nowhere else as its left child."""
    if tree[0] in ("name", "number"):
        return False
    if tree[0][:2] == ("_", token) and tree[1][0] == ("name", FRESH):
        return True
    return any(has_left_child(part, token) for part in tree[1])


def look(edition, surroundings):
    """The look of surroundings, None if no text fits them."""
    ahead, behind = surroundings
    told = Reading(edition.forms(), edition.hard(), ahead + [FRESH] + behind)
    if told.fault is not None:
        return None
    frames = told.states[len(ahead)][0]
    hole = () if not frames else ("(",) if frames[-1] == ("bracket",) else frames[-1][1]
    token = behind[0] if behind else ""
    return (hole, token, token in told.tails() and has_left_child(told.outcome()[1], token))


def all_surroundings(edition, most):
    """All surroundings of up to so many tokens that some text fits, by their size."""
    tokens = [token for token in naive.tokens_of(edition) if token != "1"]
    for size in range(most + 1):
        for row in product(tokens, repeat=size):
            for at in range(size + 1):
                surroundings = (list(row[:at]), list(row[at:]))
                if look(edition, surroundings) is not None:
                    yield surroundings


def texts_read(edition, most, cap):
    """Texts of up to so many tokens, some words quoted."""
    tokens = [token for token in naive.tokens_of(edition) if token != "1"]
    tokens = tokens + ["'" + token for token in tokens if token.isalpha() and token != "q"][:1]
    found = [text for text in naive.all_texts(tokens, most) if naive.read(edition, text)[0] == "read"]
    return found[:cap]
