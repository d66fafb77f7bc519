"""Points 1 and 2, for every function: arguments right and wrong, errors in order, nothing changed."""

import inspect
import unittest

from keptreadings import coming, editions, errors, reading, stacks, tokens, trees
from keptreadings.editions import Edition
from tests import judges
from tests.samples import LET, NOT, PLUS, TIMES, objects, snapshot, spoil

HERE, LESS = Edition([PLUS, TIMES, LET, NOT], ["let"]), Edition([PLUS, NOT], [])
PLACES = [one[:many] for one, _, _ in HERE.forms() for many in range(1, len(one) + 1) if one[:many] != ("_",)]
FITTING = [("put", (("+",), 1, ())), ("level", ("tail", "+"), 1), ("hard", "a")]
FRAMES = [("bracket",)] + [("form", place) for place in PLACES if place[-1] == "_"]


def text():
    return ["(", "let", "a", "+", "'b", "in", "not", ")"]


def tree():
    return (PLUS[0], [("name", "a"), (NOT[0], [("number", "7")])])


def stack():
    return [("bracket",), ("form", ("let", "_")), ("form", PLUS[0])]


def is_like(value, others):
    """Whether an object is one of others, in which True is not 1."""
    return snapshot(value) in [snapshot(other) for other in others]


# For each kind of argument: a right one, the error, and what is right.
KINDS = {
    "edition": (lambda: HERE, errors.InvalidEdition, judges.edition),
    "newer": (lambda: LESS, errors.InvalidEdition, judges.edition),
    "editions": (lambda: [HERE, LESS], errors.InvalidEditions, judges.editions),
    "token": (lambda: "'a", errors.InvalidToken, judges.token),
    "line": (lambda: " a + 'b", errors.InvalidText, judges.line),
    "text": (text, errors.InvalidText, judges.text),
    "many": (lambda: 30, errors.InvalidCount, lambda value: judges.count(value) and value <= 1000),
    "forms": (lambda: [NOT, PLUS, LET], errors.InvalidForms, judges.forms),
    "hard": (lambda: ["not", "let"], errors.InvalidWords, judges.words),
    "change": (lambda: ("hard", "not"), errors.InvalidChange, lambda value: is_like(value, FITTING)),
    "changes": (lambda: [("out", NOT[0]), ("level", ("tail", "+"), 1)], errors.InvalidChanges, judges.changes),
    "place": (lambda: ("let", "_"), errors.UnknownPlace, lambda value: is_like(value, PLACES)),
    "at": (lambda: 4, errors.InvalidCount, lambda value: judges.count(value) and value <= len(text())),
    "tree": (tree, errors.InvalidTree, judges.tree),
    "path": (lambda: (1, 0), errors.InvalidPath, lambda value: is_like(value, [(), (0,), (1,), (1, 0)])),
    "frame": (lambda: ("form", PLUS[0]), errors.InvalidStack, lambda value: is_like(value, FRAMES + [("bottom",)])),
    "stack": (stack, errors.InvalidStack, lambda value: is_like(value, [[], [("bracket",)], stack()])),
    "value": (lambda: None, None, None),
}
# Each function with the names of its parameters and the kinds of these.
FUNCTIONS = [
    (tokens.is_token, "value:value"), (tokens.kind, "token:token"), (tokens.cut, "line:line"), (tokens.line_of, "text:text"),
    (tokens.tight_line, "text:text"), (tokens.unmarked, "text:text"), (tokens.free_words, "editions:editions many:many"),
    (editions.is_form, "value:value"), (editions.first_clash, "forms:forms hard:hard"), (editions.Edition, "forms:forms hard:hard"),
    (editions.numbers, "edition:edition"), (editions.changed, "edition:edition change:change"),
    (editions.changed_by, "edition:edition changes:changes"), (editions.told_changes, "elder:edition newer:newer"),
    (editions.are_changes, "elder:edition newer:newer value:value"),
    (reading.places, "edition:edition"), (reading.goes_on, "edition:edition place:place"), (reading.read, "edition:edition text:text"),
    (reading.taken, "edition:edition text:text"), (reading.standing, "edition:edition text:text at:at"),
    (coming.is_start, "edition:edition tokens:text"), (coming.first_dead, "edition:edition tokens:text"),
    (coming.may_come, "edition:edition tokens:text"),
    (trees.is_tree, "edition:edition value:value"), (trees.paths, "tree:tree"), (trees.part_at, "tree:tree path:path"),
    (trees.put_at, "tree:tree path:path other:tree"), (trees.forms_in, "tree:tree"), (trees.words_in, "tree:tree"),
    (trees.bare_text, "tree:tree"), (trees.yield_parts, "tree:tree"), (trees.first_parted, "one:tree other:tree"),
    (stacks.frames, "edition:edition"), (stacks.next_frames, "edition:edition frame:frame"), (stacks.is_stack, "edition:edition value:value"),
    (stacks.leading, "edition:edition stack:stack"), (stacks.leading_size, "edition:edition stack:stack"),
    (stacks.is_leading, "edition:edition stack:stack value:value"), (stacks.ending, "edition:edition stack:stack"),
    (stacks.ending_size, "edition:edition stack:stack"), (stacks.is_ending, "edition:edition stack:stack value:value"),
]
ROWS = [(function, [pair.split(":") for pair in told.split()]) for function, told in FUNCTIONS]


def right_arguments(row):
    return [KINDS[kind][0]() for _, kind in row]


def as_told(value):
    """What a result is, an edition by its forms and words."""
    return snapshot(value)


class ArgumentsTest(unittest.TestCase):

    def test_names_and_files(self):
        for function, row in ROWS:
            self.assertEqual(list(inspect.signature(function).parameters), [name for name, _ in row])
        for module in (tokens, editions, reading, coming, trees, stacks):
            here = [function for function, _ in ROWS if function.__module__ == module.__name__]
            for function in here:
                self.assertIs(getattr(module, function.__name__), function)
        for name in ("__init__", "__eq__", "forms", "hard"):
            self.assertIn(name, vars(Edition))

    def test_by_position_and_by_name(self):
        for function, row in ROWS:
            by_position = function(*right_arguments(row))
            names = [name for name, _ in row]
            by_name = function(**dict(reversed(list(zip(names, right_arguments(row))))))
            self.assertEqual(as_told(by_position), as_told(by_name), function.__name__)
            mixed = function(right_arguments(row)[0], **dict(zip(names[1:], right_arguments(row)[1:])))
            self.assertEqual(as_told(by_position), as_told(mixed), function.__name__)

    def raised(self, function, arguments, names, error, wrong):
        before = [snapshot(argument) for argument in arguments]
        for call in (lambda: function(*arguments), lambda: function(**dict(zip(names, arguments)))):
            with self.assertRaises(error) as caught:
                call()
            self.assertIs(caught.exception.__class__, error, (function.__name__, wrong))
            self.assertIs(caught.exception.value, wrong, function.__name__)
        self.assertEqual([snapshot(argument) for argument in arguments], before)

    def test_any_object_in_each_place(self):
        for function, row in ROWS:
            names = [name for name, _ in row]
            for at, (_, kind) in enumerate(row):
                _, error, is_right = KINDS[kind]
                if error is None:
                    continue
                for wrong in objects():
                    if not is_right(wrong):
                        arguments = right_arguments(row)
                        arguments[at] = wrong
                        self.raised(function, arguments, names, error, wrong)

    def test_two_wrong_arguments(self):
        for function, row in ROWS:
            names = [name for name, _ in row]
            for at, (_, kind) in enumerate(row[:-1]):
                _, error, is_right = KINDS[kind]
                for wrong in [thing for thing in objects() if not is_right(thing)][::4]:
                    for other in (None, True, 1, "$", ("x",), [None], {}, [("a", 1, ())], Edition([], [])):
                        arguments = right_arguments(row)[:at] + [wrong] + [other] * (len(row) - at - 1)
                        self.raised(function, arguments, names, error, wrong)

    def test_words_are_judged_ahead_of_the_clash(self):
        twice = ["a", "a"]
        for wrong in (twice, ["+"], None, ("a",), True):
            self.raised(Edition, [[PLUS, PLUS], wrong], ["forms", "hard"], errors.InvalidWords, wrong)

    def test_any_object_to_be_judged(self):
        for function, row in ROWS:
            if row[-1][1] != "value":
                continue
            for thing in objects():
                arguments = right_arguments(row)[:-1] + [thing]
                before = snapshot(arguments)
                self.assertIn(function(*arguments).__class__, (bool,), function.__name__)
                self.assertEqual(snapshot(arguments), before)

    def test_arguments_stay_and_results_are_new(self):
        for function, row in ROWS:
            arguments = right_arguments(row)
            before = snapshot(arguments)
            first = function(*arguments)
            told = as_told(first)
            self.assertEqual(snapshot(arguments), before, function.__name__)
            spoil(first)
            self.assertEqual(snapshot(arguments), before, function.__name__)
            self.assertEqual(as_told(function(*arguments)), told, function.__name__)
            # What was passed may be changed, too.
            again = function(*arguments)
            spoil(arguments)
            self.assertEqual(as_told(again), told, function.__name__)
            self.assertEqual(as_told(function(*right_arguments(row))), told, function.__name__)

    def test_a_list_is_read_as_it_is_then(self):
        row = ["a"]
        self.assertEqual(reading.read(HERE, row), ("read", ("name", "a")))
        row.append("+")
        self.assertEqual(reading.read(HERE, row), ("fault", 2))
        self.assertEqual(coming.may_come(HERE, row), (["not"], True, False, False))
        row.append("let")
        self.assertEqual(coming.first_dead(HERE, row), 2)
        row[2:] = ["1"]
        self.assertIs(coming.is_start(HERE, row), True)
        self.assertEqual(tokens.line_of(row), "a + 1")
        row.append(None)
        with self.assertRaises(errors.InvalidText):
            reading.taken(HERE, row)
        part = (PLUS[0], [("name", "a"), ("name", "b")])
        self.assertEqual(trees.words_in(part), ["a", "b"])
        part[1][0] = (NOT[0], [("number", "1")])
        self.assertEqual(trees.words_in(part), ["b"])
        del part[1][0]
        with self.assertRaises(errors.InvalidTree):
            trees.words_in(part)
        open_ones = [("bracket",)]
        self.assertEqual(stacks.ending_size(HERE, open_ones), 2)
        open_ones.append(("form", ("let", "_")))
        self.assertEqual(stacks.ending_size(HERE, open_ones), 4)
        forms = [PLUS]
        one = Edition(forms, [])
        forms.append(NOT)
        self.assertEqual(one, Edition([PLUS], []))
        self.assertEqual(Edition(forms, []), LESS)

    def test_rows_of_other_kinds(self):
        calls = [
            (reading.read, (HERE, tuple(text())), errors.InvalidText), (tokens.line_of, (("a",),), errors.InvalidText),
            (tokens.free_words, ((HERE,), 1), errors.InvalidEditions), (tokens.free_words, ([], True), errors.InvalidCount),
            (reading.goes_on, (HERE, ["let"]), errors.UnknownPlace), (trees.part_at, (tree(), [1, 0]), errors.InvalidPath),
            (trees.part_at, (tree(), (True,)), errors.InvalidPath), (trees.paths, ((PLUS[0], tuple(tree()[1])),), errors.InvalidTree),
            (trees.paths, (list(tree()),), errors.InvalidTree), (stacks.leading, (HERE, tuple(stack())), errors.InvalidStack),
            (stacks.leading, (HERE, [["bracket"]]), errors.InvalidStack), (editions.changed, (HERE, ["hard", "not"]), errors.InvalidChange),
            (editions.changed, (HERE, ("level", ("tail", "+"), True)), errors.InvalidChange),
            (editions.changed_by, (HERE, (("hard", "not"),)), errors.InvalidChanges),
            (editions.first_clash, ([[PLUS[0], 4, (4, 5)]], []), errors.InvalidForms),
            (editions.first_clash, ([(PLUS[0], True, (4, 5))], []), errors.InvalidForms),
            (editions.first_clash, ([(PLUS[0], 4, (4, False))], []), errors.InvalidForms),
            (reading.standing, (HERE, ["a"], True), errors.InvalidCount), (reading.standing, (HERE, ["a"], False), errors.InvalidCount),
        ]
        for function, arguments, error in calls:
            with self.assertRaises(error):
                function(*arguments)
