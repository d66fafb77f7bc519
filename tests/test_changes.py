"""Points 18 and 19: changes, and the fewest of them."""

import random
import unittest
from itertools import permutations

from keptreadings.editions import Edition, are_changes, changed, changed_by, first_clash, numbers, told_changes
from keptreadings.errors import InvalidChange, InvalidChanges, Unsound
from tests import judges
from tests.samples import LET, NOT, PLUS, TIMES, objects, random_editions

SHORT, LONG = (("if", "_", "then", "_"), 2, (0, 3)), (("if", "_", "then", "_", "else", "_"), 2, (0, 3, 2))
BASE = Edition([PLUS, TIMES, SHORT, LONG, NOT], ["not"])


def after(edition, forms_out, forms_in):
    return Edition([form for form in edition.forms() if form not in forms_out] + forms_in, edition.hard())


class ChangedTest(unittest.TestCase):

    def test_put_and_out(self):
        self.assertEqual(changed(BASE, ("put", LET)), after(BASE, [], [LET]))
        self.assertEqual(changed(BASE, ("out", PLUS[0])), after(BASE, [PLUS], []))

    def test_each_kind_of_key(self):
        rows = [
            (("head", "not"), NOT, (NOT[0], 1, (8,))), (("tail", "+"), PLUS, (PLUS[0], 1, (4, 5))),
            (("left", "+"), PLUS, (PLUS[0], 4, (1, 5))), (("hole", PLUS[0]), PLUS, (PLUS[0], 4, (4, 1))),
            (("hole", LONG[0]), LONG, (LONG[0], 2, (0, 3, 1))),
        ]
        for key, old, new in rows:
            self.assertEqual(changed(BASE, ("level", key, 1)), after(BASE, [old], [new]))

    def test_a_key_that_forms_share(self):
        new = [(SHORT[0], 7, (0, 3)), (LONG[0], 7, (0, 3, 2))]
        self.assertEqual(changed(BASE, ("level", ("head", "if"), 7)), after(BASE, [SHORT, LONG], new))
        new = [(SHORT[0], 2, (0, 9)), (LONG[0], 2, (0, 9, 2))]
        self.assertEqual(changed(BASE, ("level", ("hole", SHORT[0]), 9)), after(BASE, [SHORT, LONG], new))

    def test_a_level_that_is_set_to_what_it_is(self):
        for key, level in numbers(BASE).items():
            self.assertEqual(changed(BASE, ("level", key, level)), BASE)
            for other in range(10):
                self.assertEqual(numbers(changed(BASE, ("level", key, other))), {**numbers(BASE), key: other})

    def test_hard_and_soft(self):
        self.assertEqual(changed(BASE, ("hard", "if")), Edition(BASE.forms(), ["if", "not"]))
        self.assertEqual(changed(BASE, ("soft", "not")), Edition(BASE.forms(), []))

    def test_what_does_not_fit(self):
        wrong = [
            ("put", PLUS), ("put", (PLUS[0], 9, (9, 9))), ("out", LET[0]), ("out", ("_", "+")), ("hard", "not"),
            ("soft", "if"), ("soft", "nowhere"), ("level", ("head", "+"), 1), ("level", ("tail", "not"), 1),
            ("level", ("left", "not"), 1), ("level", ("hole", ("if", "_", "else", "_")), 1), ("level", ("tail", "then"), 1),
            ("level", ("head", "then"), 1),
        ]
        for change in wrong:
            for make, given in ((changed, change), (changed_by, [change])):
                with self.assertRaises(InvalidChange) as caught:
                    make(BASE, given)
                self.assertIs(caught.exception.value, change)

    def test_what_is_no_change(self):
        wrong = [
            ("put", PLUS[0]), ("put",), ("put", PLUS, PLUS), ["out", PLUS[0]], ("out", PLUS), ("out", list(PLUS[0])),
            ("out", ("_",)), ("level", ("tail", "+"), 10), ("level", ("tail", "+"), -1), ("level", ("tail", "+"), True),
            ("level", ("tail", "+")), ("level", ["tail", "+"], 1), ("level", ("tail", "'a"), 1), ("level", ("hole", ("_",)), 1),
            ("level", ("hole", ("_", "+")), 1), ("level", ("hole", ["_", "+", "_"]), 1), ("level", ("hole", "+"), 1),
            ("level", ("tail", ("_", "+")), 1), ("level", ("bracket", "+"), 1), ("hard", "+"), ("hard", "'not"), ("soft", None),
            ("hole", "a"), ("lever", ("tail", "+"), 1), ("put", ("tail", "+"), 1), ("level", ("tail", "+", 1), 1),
            ("level", ("tail",), 1), ("level", (), 1), ("level", ("holes", PLUS[0]), 1), (None, ("tail", "+"), 1),
            ("level", (None, PLUS[0]), 1), (("put",), PLUS), ("level", ("hole", ("a", "_", "b", "_", "c", "_", "d", "_")), 1),
        ]
        for change in wrong + objects():
            if judges.change(change):
                continue
            with self.assertRaises(InvalidChange) as caught:
                changed(BASE, change)
            self.assertIs(caught.exception.value, change)
            # The list is judged by the forms of all, ahead of what does not fit.
            changes = [("put", PLUS), change]
            with self.assertRaises(InvalidChanges) as caught:
                changed_by(BASE, changes)
            self.assertIs(caught.exception.value, changes)

    def test_what_is_no_list(self):
        for thing in objects() + [(("hard", "if"),), ("hard", "if"), {("hard", "if"): 1}]:
            if not judges.changes(thing):
                with self.assertRaises(InvalidChanges) as caught:
                    changed_by(BASE, thing)
                self.assertIs(caught.exception.value, thing)

    def test_what_comes_out_unsound(self):
        rows = [
            (("put", (("_", "then"), 1, (1,))), ("both", "then")), (("put", (("not", "a"), 8, ())), ("branch", ("not",))),
            (("put", (("not", "_", "a"), 1, (8,))), ("level", ("head", "not"))), (("out", NOT[0]), ("hard", "not")),
            (("hard", "then"), ("hard", "then")), (("put", (("nil",), 1, ())), ("soft", "nil")),
        ]
        for change, clash in rows:
            for make, given in ((changed, change), (changed_by, [change])):
                with self.assertRaises(Unsound) as caught:
                    make(BASE, given)
                self.assertEqual(caught.exception.value, clash)

    def test_lists(self):
        self.assertEqual(changed_by(BASE, []), BASE)
        # Through what is not sound: a word alone, a hard word without its head, unlike levels.
        nil = (("nil",), 1, ())
        self.assertEqual(changed_by(BASE, [("put", nil), ("hard", "nil")]), Edition(BASE.forms() + [nil], ["nil", "not"]))
        self.assertEqual(changed_by(BASE, [("hard", "nil"), ("put", nil)]), Edition(BASE.forms() + [nil], ["nil", "not"]))
        gone = [("out", NOT[0]), ("put", NOT)]
        self.assertEqual(changed_by(BASE, gone), BASE)
        third = (("if", "_", "then", "_", "fi"), 5, (1, 2))
        mended = [("put", third), ("level", ("head", "if"), 4), ("level", ("hole", ("if", "_")), 4),
                  ("level", ("hole", SHORT[0]), 4)]
        wanted = [(SHORT[0], 4, (4, 4)), (LONG[0], 4, (4, 4, 2)), (third[0], 4, (4, 4))]
        self.assertEqual(changed_by(BASE, mended), after(BASE, [SHORT, LONG], wanted))
        for many in range(1, 4):
            with self.assertRaises(Unsound):
                changed_by(BASE, mended[:many])

    def test_each_has_to_fit_what_is_there_then(self):
        with self.assertRaises(InvalidChange) as caught:
            changed_by(BASE, [("out", NOT[0]), ("level", ("head", "not"), 1)])
        self.assertEqual(caught.exception.value, ("level", ("head", "not"), 1))
        with self.assertRaises(InvalidChange) as caught:
            changed_by(BASE, [("put", LET), ("hard", "let"), ("put", LET), ("soft", "in")])
        self.assertEqual(caught.exception.value, ("put", LET))
        with self.assertRaises(InvalidChange) as caught:
            changed_by(BASE, [("soft", "not"), ("soft", "not")])
        self.assertEqual(caught.exception.value, ("soft", "not"))
        # What does not fit is told ahead of an unsound end.
        with self.assertRaises(InvalidChange):
            changed_by(BASE, [("out", NOT[0]), ("soft", "if")])
        with self.assertRaises(Unsound) as caught:
            changed_by(BASE, [("out", NOT[0]), ("put", (("_", "then"), 1, (1,)))])
        self.assertEqual(caught.exception.value, ("both", "then"))


def forms_changed(forms, change):
    """The forms by a change that fits, in any order, told for the tests alone."""
    if change[0] == "put":
        return forms | {change[1]}
    if change[0] == "out":
        return frozenset(form for form in forms if form[0] != change[1])
    found = []
    for pattern, level, levels in forms:
        keys = [("tail", pattern[1]) if pattern[0] == "_" else ("head", pattern[0])]
        keys += [("left", pattern[1]) if at == 0 else ("hole", pattern[:at + 1])
                 for at, item in enumerate(pattern) if item == "_"]
        told = [change[2] if key == change[1] else old for key, old in zip(keys, (level,) + levels)]
        found.append((pattern, told[0], tuple(told[1:])))
    return frozenset(found)


def fewest(elder, newer, most):
    """The least number of changes, by trying all that are of use; None if it is above most."""
    goal = frozenset(newer.forms())
    rows, seen = [frozenset(elder.forms())], set()
    words = len(set(elder.hard()) ^ set(newer.hard()))
    for many in range(most + 1 - words):
        longer = []
        for forms in rows:
            if forms == goal:
                return many + words
            patterns = [form[0] for form in forms]
            moves = [("put", form) for form in newer.forms() if form[0] not in patterns]
            moves += [("out", pattern) for pattern in patterns]
            moves += [("level", key, level) for key, level in numbers(newer).items()]
            for move in moves:
                made = forms_changed(forms, move)
                if made not in seen:
                    seen.add(made)
                    longer.append(made)
        rows = longer
    return None


class FewestTest(unittest.TestCase):

    def leads(self, elder, newer, many):
        told = told_changes(elder, newer)
        self.assertEqual(len(told), many, told)
        self.assertEqual(changed_by(elder, told), newer)
        self.assertIs(are_changes(elder, newer, told), True)
        self.assertIs(are_changes(elder, newer, told + [("level", ("tail", "+"), 1)]), False)
        if told:
            self.assertIs(are_changes(elder, newer, told[1:]), False)
            self.assertIs(are_changes(elder, newer, []), False)
        return told

    def test_equal_editions(self):
        self.leads(BASE, BASE, 0)
        self.leads(Edition([], []), Edition([], []), 0)
        self.assertIs(are_changes(BASE, BASE, [("level", ("tail", "+"), 4)]), False)
        self.assertIs(are_changes(BASE, BASE, [("out", PLUS[0]), ("put", PLUS)]), False)

    def test_levels_forms_and_words(self):
        self.leads(BASE, changed(BASE, ("level", ("tail", "+"), 1)), 1)
        self.leads(BASE, after(BASE, [PLUS], [LET]), 2)
        self.leads(BASE, Edition(BASE.forms(), ["if"]), 2)
        self.leads(Edition([], []), BASE, 6)
        self.leads(BASE, Edition([], []), 6)

    def test_a_form_that_goes_out_and_comes_anew(self):
        for levels, many in (((4, 5), 0), ((4, 1), 1), ((1, 1), 2)):
            self.leads(BASE, after(BASE, [PLUS], [(PLUS[0], 4, levels)]), many)
        told = self.leads(BASE, after(BASE, [PLUS], [(PLUS[0], 1, (1, 1))]), 2)
        self.assertEqual(told, [("out", PLUS[0]), ("put", (PLUS[0], 1, (1, 1)))])
        # With two keys both ways are as short.
        newer = after(BASE, [PLUS], [(PLUS[0], 4, (1, 1))])
        self.assertIs(are_changes(BASE, newer, [("out", PLUS[0]), ("put", (PLUS[0], 4, (1, 1)))]), True)
        keyed = [("level", ("left", "+"), 1), ("level", ("hole", PLUS[0]), 1)]
        self.assertIs(are_changes(BASE, newer, keyed), True)
        self.assertIs(are_changes(BASE, newer, keyed[::-1]), True)

    def test_keys_that_forms_share(self):
        new = [(SHORT[0], 5, (5, 5)), (LONG[0], 5, (5, 5, 2))]
        self.leads(BASE, after(BASE, [SHORT, LONG], new), 3)
        new = [(SHORT[0], 5, (5, 5)), (LONG[0], 5, (5, 5, 5))]
        self.leads(BASE, after(BASE, [SHORT, LONG], new), 4)
        # Three keys of the one that stays; the other one only goes out.
        self.leads(BASE, after(BASE, [SHORT, LONG], [(SHORT[0], 5, (5, 5))]), 3)
        # A key of a form that comes anew is none of those that stay.
        elder = Edition([(("a", "_", "b"), 1, (1,)), (("a", "_", "c", "_", "d", "_"), 1, (1, 1, 1))], [])
        newer = Edition([(("a", "_", "b"), 1, (1,)), (("a", "_", "c", "_", "d", "_"), 1, (1, 2, 2))], [])
        self.leads(elder, newer, 2)

    def test_other_orders_and_other_ends(self):
        newer = Edition([TIMES, SHORT, LONG, NOT, LET], ["let"])
        told = self.leads(BASE, newer, 4)
        for row in permutations(told):
            self.assertIs(are_changes(BASE, newer, list(row)), True)
        self.assertIs(are_changes(BASE, newer, tuple(told)), False)
        self.assertIs(are_changes(newer, BASE, told), False)
        for at in range(4):
            for other in [("out", TIMES[0]), ("hard", "if"), ("level", ("tail", "*"), 1), ("put", PLUS), None, ["out"]]:
                self.assertIs(are_changes(BASE, newer, told[:at] + [other] + told[at + 1:]), False)

    def test_no_fewer_changes(self):
        source = random.Random(19)
        pool = random_editions(19, 40, 3, 2)
        met = set()
        for _ in range(150):
            elder = source.choice(pool)
            newer = source.choice(pool)
            if source.random() < 0.8:
                newer = self.other_levels(source, elder)
            told = told_changes(elder, newer)
            self.assertEqual(changed_by(elder, told), newer)
            self.assertIs(are_changes(elder, newer, told), True)
            if len(told) <= 4:
                self.assertEqual(fewest(elder, newer, 4), len(told), (elder.forms(), newer.forms()))
                met.add(tuple(sorted({change[0] for change in told})))
        self.assertIn(("level", "out", "put"), met)

    def other_levels(self, source, edition):
        """The edition with other levels at some keys, and perhaps without one of its forms."""
        for key in numbers(edition):
            if source.random() < 0.5:
                edition = changed(edition, ("level", key, source.randint(0, 2)))
        if edition.forms() and source.random() < 0.3:
            left = edition.forms()[1:]
            if first_clash(left, edition.hard()) is None:
                return Edition(left, edition.hard())
        return edition

    def test_any_object(self):
        newer = changed(BASE, ("hard", "if"))
        for thing in objects():
            self.assertIs(are_changes(BASE, newer, thing), False)
            self.assertIs(are_changes(BASE, BASE, thing), thing == [] and isinstance(thing, list))
        self.assertIs(are_changes(BASE, newer, [("hard", "if")]), True)
        self.assertIs(are_changes(BASE, newer, (("hard", "if"),)), False)
        self.assertIs(are_changes(BASE, newer, [["hard", "if"]]), False)
