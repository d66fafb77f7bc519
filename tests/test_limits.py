"""Point 3: calls at the limits are answered."""

import random
import unittest

from keptreadings.coming import first_dead, is_start, may_come
from keptreadings.editions import Edition, are_changes, changed, changed_by, first_clash, numbers, told_changes
from keptreadings.reading import goes_on, places, read, standing, taken
from keptreadings.stacks import ending, frames, is_ending, is_leading, is_stack, leading, next_frames
from keptreadings.tokens import cut, free_words, line_of, tight_line, unmarked
from keptreadings.trees import bare_text, first_parted, forms_in, is_tree, part_at, paths, put_at, words_in, yield_parts
from tests import naive

FORMS = [
    (("a", "_", "b", "_", "c", "_", "d"), 5, (0, 0, 0)), (("_", "+", "_", "e", "_"), 5, (5, 5, 5)), (("_", "-", "_"), 5, (5, 0)),
    (("f", "_", "b", "_"), 5, (0, 0)), (("_", "*"), 6, (1,)), (("g", "h", "_"), 5, (0,)), (("_", "/", "_"), 5, (5, 5)),
    (("k", "_", "i"), 5, (0,)),
]
FULL = Edition(FORMS, ["a"])


def raised_levels(forms, by):
    return [(one, (level + by) % 10, tuple((other + by) % 10 for other in levels)) for one, level, levels in forms]


class LimitsTest(unittest.TestCase):

    def test_the_edition_is_at_the_limit(self):
        tokens = {item for one, _, _ in FORMS for item in one if item != "_"}
        self.assertEqual((len(FULL.forms()), len(tokens)), (8, 14))
        self.assertIsNone(first_clash(FORMS, ["a"]))
        self.assertEqual(len(numbers(FULL)), len(naive.levels_by_keys(FORMS)))

    def test_somewhat_beyond_is_no_error(self):
        forms = [(("_", sign, "_"), 1, (1, 2)) for sign in "+-*/<>=&|@^~"]
        edition = Edition(forms, [])
        self.assertEqual(len(edition.forms()), 12)
        self.assertEqual(len(told_changes(edition, Edition([], []))), 12)
        text = ["x"] + ["+", "x"] * 100
        self.assertEqual(read(edition, text), naive.read(edition, text))
        changes = [("level", key, 3) for key in numbers(edition)]
        self.assertEqual(set(numbers(changed_by(edition, changes)).values()), {3})

    def test_changes(self):
        changes = [("out", ("_", "/", "_")), ("put", (("z",), 1, ())), ("hard", "z"), ("level", ("tail", "+"), 6)]
        newer = changed_by(FULL, changes)
        self.assertEqual(len(newer.forms()), 8)
        self.assertEqual(changed(FULL, changes[3]), changed_by(FULL, changes[3:]))
        self.assertIs(are_changes(FULL, newer, changes), True)
        self.assertIs(are_changes(FULL, newer, changes[::-1]), True)

    def test_told_changes_between_editions_of_eight_forms(self):
        # All levels are unlike: each form of more than two keys of its own goes out and comes anew.
        newer = Edition(raised_levels(FORMS, 1), [])
        told = told_changes(FULL, newer)
        self.assertEqual(changed_by(FULL, told), newer)
        self.assertEqual(len(told), 1 + sum(min(2, 1 + len(form[2])) for form in FORMS))
        self.assertIs(are_changes(FULL, newer, told), True)
        self.assertIs(are_changes(FULL, newer, told[1:]), False)
        self.assertEqual(len(told_changes(FULL, Edition([], []))), 9)
        shared = [(("w", "_", sign), 1, (1,)) for sign in "+-*/<>=."]
        raised = raised_levels(shared, 1)
        self.assertEqual(len(told_changes(Edition(shared, []), Edition(raised, []))), 2)

    def test_free_words(self):
        words = free_words([FULL] * 4, 1000)
        self.assertEqual(len(words), 1000)
        self.assertEqual(words[:3], ["j", "l", "m"])

    def long_texts(self):
        return [["("] * 30 + ["x"] + [")"] * 29, ["g", "h"] * 29 + ["x", "*"], (["x", "+", "x", "e"] * 15), ["k"] * 60,
                ["x"] + ["*"] * 59, ["k"] * 30 + ["i"] * 30, ["f", "k", "b"] * 20, ["'a"] * 60, ["12345678", "-"] * 30,
                ["a", "x", "b", "x", "c"] * 11 + ["x"] + ["d"] * 4]

    def test_texts_of_sixty_tokens(self):
        for text in self.long_texts():
            self.assertEqual(len(text), 60)
            told = naive.Reading(FULL.forms(), FULL.hard(), text)
            self.assertEqual(read(FULL, text), told.outcome())
            self.assertEqual(taken(FULL, text), told.hows)
            states = told.states + [None] * (61 - len(told.states))
            self.assertEqual([standing(FULL, text, at) for at in range(61)], states)
            self.assertIs(is_start(FULL, text), first_dead(FULL, text) is None)
            self.assertIs(may_come(FULL, text) is None, first_dead(FULL, text) is not None)
            self.assertEqual(cut(line_of(text)), text)
            self.assertEqual(cut(tight_line(text)), text)
            self.assertLessEqual(len(unmarked(text)), 60)

    def test_places(self):
        self.assertEqual(len(places(FULL)), len({one[:many] for one, _, _ in FORMS for many in range(1, 8)} - {("_",)}))
        for place in places(FULL):
            self.assertEqual(len(goes_on(FULL, place)), 3)

    def test_trees_of_forty_nodes(self):
        deep, wide = ("name", "x"), ("name", "x")
        for _ in range(39):
            deep = (("_", "*"), [deep])
        for at in range(13):
            wide = (("_", "+", "_", "e", "_"), [wide, ("number", "1"), ("name", "b" * (at % 8 + 1))])
        for tree in (deep, wide):
            self.assertEqual(len(paths(tree)), 40)
            self.assertIs(is_tree(FULL, tree), True)
            for path in paths(tree):
                self.assertEqual(put_at(tree, path, part_at(tree, path)), tree)
            self.assertEqual(len(yield_parts(tree)), len(bare_text(tree)))
            self.assertIsNone(first_parted(tree, put_at(tree, (), tree)))
            last = paths(tree)[-1]
            at = 0 if tree == deep else len(bare_text(tree)) - 1
            self.assertEqual(first_parted(tree, put_at(tree, last, ("name", "y"))), at)
            self.assertEqual(len(forms_in(tree)), 1)
            self.assertIn("x", words_in(tree))
        self.assertEqual(max(len(path) for path in paths(deep)), 39)

    def test_stacks(self):
        source = random.Random(3)
        self.assertEqual(next_frames(FULL, ("bottom",)), frames(FULL))
        for many in (40, 200):
            stack = []
            while len(stack) < many:
                stack.append(source.choice(next_frames(FULL, stack[-1] if stack else ("bottom",))))
            self.assertIs(is_stack(FULL, stack), True)
            self.assertIs(is_leading(FULL, stack, leading(FULL, stack)), True)
            told = ending(FULL, stack)
            self.assertIs(is_ending(FULL, stack, told), True)
            self.assertIs(is_ending(FULL, stack, told + ["*"]), False)
            self.assertIs(is_ending(FULL, stack, told[:-1]), False)
            self.assertEqual(naive.read(FULL, leading(FULL, stack) + told)[0], "read")
