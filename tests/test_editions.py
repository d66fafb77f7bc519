"""Points 15 to 17: forms, clashes and editions."""

import random
import unittest
from itertools import permutations

from keptreadings.editions import Edition, changed_by, first_clash, is_form, numbers
from keptreadings.errors import Fault, InvalidForms, InvalidWords, Unsound
from tests import judges, naive
from tests.samples import LET, NOT, PLUS, TIMES, objects, random_editions, random_form, snapshot

HARD_ALONE = (("nil",), 9, ())


class FormTest(unittest.TestCase):

    def test_right_forms(self):
        right = [
            (("a",), 0, ()), (("+",), 9, ()), (("_", "+"), 3, (0,)), (("a", "_"), 3, (9,)), PLUS, LET,
            (("_", "a", "_", "b", "_", "c", "d"), 1, (1, 2, 3)), (("a", "b", "c", "d", "e", "f", "g"), 1, ()),
            (("a", "_", "b", "_", "c", "_"), 1, (1, 2, 3)), (("a", "a", "_"), 0, (0,)), (("abcdefgh",), 1, ()),
        ]
        for form in right:
            self.assertIs(is_form(form), True, form)

    def test_wrong_patterns(self):
        wrong = [
            (), ("_",), ("_", "_"), ("a", "_", "_"), ("_", "_", "a"), ("a",) * 8, ("_", "a") * 4, ("a", "_") * 4,
            ("1",), ("(",), (")",), ("'a",), ("a", "_", "1"), ("a", "(", "_", ")"), ("A",), ("",), ("a", ""), ("__",),
            ("abcdefghi",), ("++",), ("a", 1), ("a", None), ("a", ("b",)), ["a"], "a", ("a", True), ("a", ["_"]),
            ("_", "a", "_", "a", "_", "a", "_"),
        ]
        for pattern in wrong:
            holes = list(pattern).count("_")
            self.assertIs(is_form((pattern, 1, (1,) * holes)), False, pattern)

    def test_wrong_levels(self):
        for level in (-1, 10, True, False, None, "1", (1,), 10 ** 30, -10 ** 30):
            self.assertIs(is_form((("a", "_"), level, (1,))), False, level)
            self.assertIs(is_form((("a", "_"), 1, (level,))), False, level)
            self.assertIs(is_form((("_", "+", "_"), 1, (1, level))), False, level)
        for levels in ((), (1, 1), [1], 1, None, {}, "1", (1, 1, 1)):
            self.assertIs(is_form((("a", "_"), 1, levels)), False, levels)

    def test_wrong_tuples(self):
        for wrong in ((("a",), 1), (("a",), 1, (), ()), [("a",), 1, ()], (1, ("a",), ()), ()):
            self.assertIs(is_form(wrong), False)

    def test_any_object(self):
        for thing in objects():
            self.assertIs(is_form(thing), judges.form(thing))


class ClashTest(unittest.TestCase):

    def clash(self, forms, hard, wanted):
        for row in permutations(forms):
            for words in permutations(hard):
                self.assertEqual(first_clash(list(row), list(words)), wanted)
                if wanted is None:
                    Edition(list(row), list(words))
                else:
                    with self.assertRaises(Unsound) as caught:
                        Edition(list(row), list(words))
                    self.assertEqual(caught.exception.value, wanted)

    def test_sound(self):
        self.clash([], [], None)
        self.clash([PLUS, TIMES, LET, NOT], ["let", "not"], None)
        self.clash([(("if", "_", "then", "_"), 2, (0, 3)), (("if", "_", "then", "_", "else", "_"), 2, (0, 3, 1))], [], None)
        self.clash([HARD_ALONE, (("+",), 1, ()), (("+", "a"), 1, ())], ["nil"], None)
        # A first token may be a tail token or a middle token, too.
        self.clash([(("-", "_"), 8, (8,)), (("_", "-", "_"), 1, (1, 2)), (("a", "_", "a", "_"), 1, (1, 1))], [], None)

    def test_twice(self):
        self.clash([PLUS, PLUS], [], ("twice", PLUS[0]))
        self.clash([PLUS, (PLUS[0], 4, (4, 6)), NOT], [], ("twice", PLUS[0]))
        self.clash([PLUS, PLUS, TIMES, TIMES], [], ("twice", TIMES[0]))

    def test_level(self):
        self.clash([(("a", "b"), 1, ()), (("a", "c"), 2, ())], [], ("level", ("head", "a")))
        self.clash([(("_", "a"), 1, (1,)), (("_", "a", "c"), 2, (1,))], [], ("level", ("tail", "a")))
        self.clash([(("_", "a"), 1, (1,)), (("_", "a", "c"), 1, (2,))], [], ("level", ("left", "a")))
        two = [(("a", "_"), 1, (1,)), (("a", "_", "b"), 1, (2,))]
        self.clash(two, [], ("level", ("hole", ("a", "_"))))
        self.clash([(("a", "_"), 1, (1,)), (("a", "_", "b", "_"), 1, (1, 3)), (("a", "_", "b", "_", "c"), 1, (1, 2))],
                   [], ("level", ("hole", ("a", "_", "b", "_"))))

    def test_level_is_the_least_key(self):
        forms = [(("_", "a", "_"), 1, (1, 1)), (("_", "a", "_", "b"), 2, (2, 2))]
        self.clash(forms, [], ("level", ("hole", ("_", "a", "_"))))
        self.clash(forms + [(("z", "a"), 1, ()), (("z", "b"), 2, ())], [], ("level", ("head", "z")))
        self.clash([(("_", "b"), 1, (1,)), (("_", "b", "c"), 2, (2,)), (("_", "a"), 1, (1,)), (("_", "a", "c"), 2, (1,))],
                   [], ("level", ("left", "b")))

    def test_branch(self):
        self.clash([(("a", "_"), 1, (1,)), (("a", "b"), 1, ())], [], ("branch", ("a",)))
        self.clash([(("+", "_"), 1, (1,)), (("+",), 1, ())], [], ("branch", ("+",)))
        self.clash([(("_", "+"), 1, (1,)), PLUS[:1] + (1, (1, 1))], [], ("branch", ("_", "+")))
        self.clash([(("a", "_"), 1, (1,)), (("a", "b"), 1, ()), (("+", "_"), 1, (1,)), (("+",), 1, ())], [],
                   ("branch", ("+",)))
        # Behind the left hole alone there is no fixed token, and behind another hole there is none.
        self.clash([PLUS, (("_", "-"), 1, (1,))], [], None)
        self.clash([(("a", "_", "b"), 1, (1,)), (("a", "_", "c", "_"), 1, (1, 1)), (("a", "_"), 1, (1,))], [], None)

    def test_both(self):
        self.clash([PLUS, (("a", "+"), 1, ())], [], ("both", "+"))
        self.clash([(("_", "+", "+"), 1, (1,))], [], ("both", "+"))
        self.clash([PLUS, TIMES, (("a", "_", "+", "*"), 1, (1,))], [], ("both", "*"))

    def test_hard(self):
        self.clash([PLUS], ["b", "a"], ("hard", "a"))
        self.clash([NOT, (("a", "_", "in"), 1, (1,)), (("_", "by", "_"), 1, (1, 1))], ["not", "in"], ("hard", "in"))
        self.clash([NOT, (("_", "by", "_"), 1, (1, 1))], ["not", "by"], ("hard", "by"))

    def test_soft(self):
        self.clash([HARD_ALONE, (("b",), 1, ())], [], ("soft", "b"))
        self.clash([HARD_ALONE, (("b",), 1, ())], ["b"], ("soft", "nil"))
        self.clash([(("nil", "x"), 9, ()), (("+",), 1, ())], [], None)

    def test_kinds_in_their_order(self):
        twice, level = [PLUS, PLUS], [(("zz", "b"), 1, ()), (("zz", "c"), 2, ())]
        branch, both = [(("yy", "_"), 1, (1,)), (("yy", "b"), 1, ())], [(("_", "xx"), 1, (1,)), (("vv", "xx"), 1, ())]
        rows = [(twice, ("twice", PLUS[0])), (level, ("level", ("head", "zz"))), (branch, ("branch", ("yy",))),
                (both, ("both", "xx")), ([HARD_ALONE], ("hard", "aa"))]
        for at, (_, wanted) in enumerate(rows):
            forms = [form for row, _ in rows[at:] for form in row]
            self.assertEqual(first_clash(forms, ["aa"]), wanted)
            self.assertEqual(first_clash(forms[::-1], ["aa"]), wanted)

    def test_held_against_a_plain_writing(self):
        source = random.Random(16)
        kinds = set()
        for _ in range(3000):
            forms = [random_form(source, ["a", "b", "+"], 1) for _ in range(source.randint(0, 4))]
            hard = source.sample(["a", "b", "c"], source.randint(0, 2))
            clash = first_clash(forms, hard)
            self.assertEqual(clash, naive.first_clash(forms, hard), (forms, hard))
            kinds.add(clash and clash[0])
        self.assertEqual(kinds, {None, "twice", "level", "branch", "both", "hard", "soft"})

    def test_wrong_lists(self):
        for make in (first_clash, Edition):
            for wrong in (None, (), (PLUS,), {}, [None], [list(PLUS)], [PLUS[0]], [PLUS, ("a", 1, ())], PLUS, "a"):
                with self.assertRaises(InvalidForms) as caught:
                    make(wrong, None)
                self.assertIs(caught.exception.value, wrong)
            for wrong in (None, (), ("a",), {}, [None], ["+"], ["'a"], ["A"], ["a", "b", "a"], [["a"]], "a", ["1"]):
                with self.assertRaises(InvalidWords) as caught:
                    make([PLUS, PLUS], wrong)
                self.assertIs(caught.exception.value, wrong)


class EditionTest(unittest.TestCase):

    def test_forms_and_hard_ascend(self):
        forms, hard = [PLUS, NOT, LET, TIMES], ["not", "let"]
        edition = Edition(forms, hard)
        self.assertEqual(edition.forms(), [TIMES, PLUS, LET, NOT])
        self.assertEqual(edition.hard(), ["let", "not"])
        self.assertEqual((forms, hard), ([PLUS, NOT, LET, TIMES], ["not", "let"]))
        forms.append(None)
        hard.append(None)
        edition.forms().append(None)
        edition.hard().clear()
        self.assertEqual(edition.forms(), [TIMES, PLUS, LET, NOT])
        self.assertEqual(edition.hard(), ["let", "not"])

    def test_equal(self):
        one = Edition([PLUS, NOT], ["not"])
        self.assertTrue(one == Edition([NOT, PLUS], ["not"]))
        self.assertFalse(one != Edition([NOT, PLUS], ["not"]))
        for other in (Edition([NOT, PLUS], []), Edition([NOT], ["not"]), Edition([(PLUS[0], 4, (4, 6)), NOT], ["not"])):
            self.assertFalse(one == other)
            self.assertTrue(one != other)
        self.assertTrue(Edition([], []) == Edition([], []))

    def test_never_equal_to_another_class(self):
        edition = Edition([], [])
        for thing in objects() + [edition.grammar, Fault(edition)]:
            if not isinstance(thing, Edition):
                self.assertIs(edition == thing, False)
                self.assertIs(thing == edition, False)

    def test_numbers(self):
        edition = Edition([
            (("if", "_", "then", "_"), 2, (0, 3)), (("if", "_", "then", "_", "else", "_"), 2, (0, 3, 1)),
            (("_", "[", "_", "]"), 9, (8, 7)), (("_", "!"), 6, (5,)), (("nil",), 4, ()),
        ], ["nil"])
        wanted = {
            ("head", "if"): 2, ("head", "nil"): 4, ("hole", ("_", "[", "_")): 7, ("hole", ("if", "_")): 0,
            ("hole", ("if", "_", "then", "_")): 3, ("hole", ("if", "_", "then", "_", "else", "_")): 1,
            ("left", "!"): 5, ("left", "["): 8, ("tail", "!"): 6, ("tail", "["): 9,
        }
        self.assertEqual(list(numbers(edition).items()), list(wanted.items()))
        self.assertEqual(list(wanted), sorted(wanted))
        self.assertEqual(numbers(Edition([], [])), {})
        numbers(edition).clear()
        self.assertEqual(numbers(edition), wanted)

    def test_numbers_of_many(self):
        for edition in random_editions(17, 60, 6, 9):
            told = naive.levels_by_keys(edition.forms())
            self.assertEqual(list(numbers(edition).items()), [(key, min(told[key])) for key in sorted(told)])

    def test_editions_never_change(self):
        edition = Edition([PLUS, NOT], ["not"])
        before = snapshot(edition)
        changed_by(edition, [("out", PLUS[0]), ("level", ("head", "not"), 3), ("soft", "not")])
        self.assertEqual(snapshot(edition), before)
