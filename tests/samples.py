"""Editions, texts and odd objects for the tests."""

import random

from keptreadings.editions import Edition, first_clash
from keptreadings.errors import Fault, InvalidToken, NothingToUndo, TongueError
from keptreadings.workshop import Workshop

HOLE = "_"
PLUS, TIMES = (("_", "+", "_"), 4, (4, 5)), (("_", "*", "_"), 6, (6, 7))
LET, NOT = (("let", "_", "in", "_"), 3, (0, 0)), (("not", "_"), 8, (8,))


def random_pattern(source, tokens):
    while True:
        items = [source.choice(tokens + [HOLE, HOLE, HOLE]) for _ in range(source.randint(1, 5))]
        if any((items[at], items[at + 1]) == (HOLE, HOLE) for at in range(len(items) - 1)):
            continue
        if items.count(HOLE) <= 3 and items.count(HOLE) < len(items):
            return tuple(items)


def random_form(source, tokens, height):
    pattern = random_pattern(source, tokens)
    levels = tuple(source.randint(0, height) for item in pattern if item == HOLE)
    return (pattern, source.randint(0, height), levels)


def random_edition(source, tokens, many, height):
    """An edition of at most so many forms, made by adding what keeps it sound."""
    forms, hard = [], []
    for _ in range(many * 4):
        form = random_form(source, tokens, height)
        grown = forms + [form]
        words = list(hard)
        first = form[0][0]
        if first.isalpha() and first not in words and (len(form[0]) == 1 or source.random() < 0.3):
            words.append(first)
        if first_clash(grown, words) is None:
            forms, hard = grown, words
        if len(forms) == many:
            break
    return Edition(forms, hard)


def random_editions(seed, count, many, height):
    """Editions over a few tokens, with words and signs at all places."""
    source = random.Random(seed)
    found = []
    for _ in range(count):
        tokens = source.sample(["a", "b", "c", "d", "+", "-"], source.randint(2, 5))
        found.append(random_edition(source, tokens, source.randint(0, many), source.randint(1, height)))
    return found


def objects():
    """Any objects, of every kind, new ones with each call."""
    return [
        None, True, False, 0, 1, -1, 7, 10 ** 30, -10 ** 30,
        "", "_", "a", "+", "1", "01", "(", ")", "'", "'a", "'1", "A", "abcdefghi", " ", "\n", "a b", "$", "%",
        [], ["a"], ["_"], ["a", "A"], ["a", None], ["a", ["b"]], [[]], [1], [True], [None], ["", "a"], ["a", "a"],
        (), ("a",), ("_",), ("_", "+", "_"), ("bracket",), ("bottom",), ("form", ("_", "+", "_")), ("a", "b"), (1,),
        (True,), ("name", "a"), ("name", "A"), ("number", "1"), ("number", 1), ("number", "01"), ((), []),
        (("+",), []), (("+",), ()), (("_", "+"), [("name", "a")]), (("_", "+"), [("name", "a"), ("name", "a")]),
        (("_", "+"), (("name", "a"),)), (["_", "+"], [("name", "a")]), ["name", "a"],
        [("bracket",)], [("bottom",)], [("form", ["_", "+", "_"])], [["bracket"]], ("form", ["_", "+", "_"]),
        (("_", "+", "_"), 4, (4, 5)), (("_", "+", "_"), 4, [4, 5]), (("_", "+", "_"), True, (4, 5)),
        (["_", "+", "_"], 4, (4, 5)), [(("_", "+", "_"), 4, (4, 5))], [(("_", "+", "_"), 4, (True, 5))],
        ("put", (("+",), 1, ())), ["put", (("+",), 1, ())], ("out", ("+",)), ("out", ["+"]), ("out",), ("put",),
        ("level", ("tail", "+"), 1), ("level", ("tail", "+"), True), ("level", ("tail", "+"), 10),
        ("level", ["tail", "+"], 1), ("level", ("hole", ("_",)), 1), ("level", ("hole", ("+", "_")), 1),
        ("hard", "a"), ("soft", "+"), ("hard", "a", "b"), [("hard", "a")], (("hard", "a"),), [["hard", "a"]],
        {}, {"a": 1}, {1: "a"}, {(): []}, {None: True}, [{}], ({},), ({}, []), [({},)],
        Edition([], []), Edition([PLUS], []), [Edition([], [])], (Edition([], []),), ["a", Edition([], [])],
        Fault(3), InvalidToken(), NothingToUndo(), TongueError(), [Fault("a")], (Fault("a"), []),
        Workshop(Edition([], [])), [Workshop(Edition([PLUS], []))],
        nested(60),
    ]


def nested(deep):
    """A list within a tuple within a list, so many deep."""
    value = ["a"]
    for at in range(deep):
        value = [value] if at % 2 else ("form", value)
    return value


def snapshot(value):
    """What an object is made of, in which True is not 1, and a tuple is no list."""
    if isinstance(value, (list, tuple)):
        return (value.__class__.__name__, [snapshot(item) for item in value])
    if isinstance(value, dict):
        return ("dict", [(snapshot(key), snapshot(value[key])) for key in value])
    if isinstance(value, Edition):
        return ("Edition", snapshot(value.forms()), snapshot(value.hard()))
    if isinstance(value, Workshop):
        dues = [(spot, value.text(spot), value.due(spot)) for spot in value.spots()]
        return ("Workshop", snapshot(value.editions()), snapshot(dues), snapshot(value.log()))
    if isinstance(value, TongueError):
        return (value.__class__.__name__, snapshot(getattr(value, "value", None)))
    return (value.__class__.__name__, value)


def spoil(value):
    """Change every list and dictionary within a result."""
    if isinstance(value, dict):
        for key in list(value):
            spoil(value[key])
        value.clear()
    if isinstance(value, (list, tuple)):
        for item in value:
            spoil(item)
    if isinstance(value, list):
        value.append("spoilt")
        value.reverse()
