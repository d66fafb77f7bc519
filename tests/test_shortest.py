"""Points 50 to 52: shortest texts that part editions."""

import unittest

from keptreadings.editions import Edition, changed, changed_by
from keptreadings.kept import is_kept_text, kept
from keptreadings.reading import read
from keptreadings.shortest import is_parting_text, is_unlike_text, parting_names, parting_size, parting_text, unlike_text
from keptreadings.tokens import cut
from tests import naive_pairs
from tests.pairs import random_pairs, stock_pairs, told
from tests.samples import LET, NOT, PLUS, TIMES, objects, random_editions

LATE = (("_", "*", "_"), 3, (3, 4))
SUMS, LOOSE = Edition([PLUS, TIMES], []), Edition([PLUS, LATE], [])


def chain(many, left):
    """Heads each of which stands on the next one alone, and a tail that only the last one lets by."""
    forms = [(("f", "_"), 1, (1,)), (("_", "!"), 0, (left,))]
    forms += [(("gh"[at % 2] * (at + 1), "_"), at + 2, (at + 1,)) for at in range(many)]
    return Edition(forms, [])


class PartingTest(unittest.TestCase):

    def parts(self, elder, newer, size):
        text = parting_text(elder, newer)
        self.assertEqual(parting_size(elder, newer), size, told(elder, newer))
        if size is None:
            self.assertIsNone(text, told(elder, newer))
            return
        self.assertEqual(len(text), size)
        self.assertIs(is_parting_text(elder, newer, text), True)
        self.assertIs(naive_pairs.broken(elder, newer, text), True, (told(elder, newer), text))

    def test_sizes(self):
        none = Edition([], [])
        self.parts(SUMS, LOOSE, 5)
        self.parts(LOOSE, SUMS, 5)
        self.parts(SUMS, SUMS, None)
        self.parts(none, SUMS, None)
        self.parts(SUMS, none, 3)
        self.parts(Edition([LET], []), none, 4)
        self.parts(Edition([(("a", "b", "c", "_", "d", "_", "e"), 1, (0, 0))], []), none, 7)
        self.parts(none, Edition([NOT], []), None)
        self.parts(none, Edition([NOT], ["not"]), 1)
        self.parts(Edition([NOT], ["not"]), Edition([NOT], []), None)

    def test_each_way_to_part(self):
        rows = [
            # A name in the elder alone, by what comes behind it; and by what it stands behind.
            ([(("_", "-", "_"), 5, (5, 6))], [(("_", "-", "_"), 5, (5, 6)), (("-", "_"), 7, (7,)), (("w", "_"), 3, (3,))], 3),
            ([NOT], [NOT, (("_", "as", "_"), 3, (3, 4))], 2),
            # A head that is too low in a frame.
            ([NOT, LET], [(NOT[0], 2, (3,)), LET], 3),
            ([(("let", "_"), 4, (1,)), NOT], [(("let", "_"), 2, (1,)), NOT], None),
            ([(("let", "_"), 4, (4,)), (("by", "_"), 4, (4,))], [(("let", "_"), 2, (4,)), (("by", "_"), 4, (4,))], 3),
            # A frame that ends, one that stays, a left level that is too high.
            ([PLUS, TIMES], [(PLUS[0], 4, (4, 7)), TIMES], 5), ([PLUS, TIMES], [PLUS, (TIMES[0], 6, (7, 7))], 5),
            # A form that goes on.
            ([(("a", "_"), 5, (0,)), (("f", "_", "b", "_"), 5, (0, 0))],
             [(("a", "_"), 5, (0,)), (("a", "_", "b"), 5, (0,)), (("f", "_", "b", "_"), 5, (0, 0))], 5),
            ([(("[", "]"), 1, ()), (("f", "_", "b"), 1, (0,))],
             [(("[", "]"), 1, ()), (("[", "]", "b"), 1, ()), (("f", "_", "b"), 1, (0,))], 4),
            # A soft word of a name's place that the newer needs for itself.
            ([(("w", "_"), 5, (0,)), (("t", "_", "b", "_", "c"), 5, (0, 0))], [(("w", "_"), 5, (0,)), (("_", "t", "_"), 5, (0, 0))], 2),
        ]
        for old, new, size in rows:
            self.parts(Edition(old, []), Edition(new, []), size)
            self.assertEqual(naive_pairs.shortest_broken(Edition(old, []), Edition(new, []), 5), size)

    def test_held_against_all_texts(self):
        seen = set()
        for elder, newer in random_pairs(50, 120, 3, 3) + stock_pairs(50, 40, 3, 3):
            texts = naive_pairs.broken_texts(elder, newer, 4, 800)
            size = parting_size(elder, newer)
            self.parts(elder, newer, size)
            if texts:
                self.assertLessEqual(size, len(texts[0]), told(elder, newer))
            if size is not None and size <= 3:
                self.assertEqual(len(texts[0]), size, told(elder, newer))
            seen.add(size)
        self.assertLessEqual({None, 1, 2, 3, 4, 5}, seen)

    def test_held_against_a_search(self):
        seen = set()
        for elder, newer in random_pairs(51, 130, 4, 4) + stock_pairs(51, 80, 4, 4):
            size = parting_size(elder, newer)
            searched = naive_pairs.shortest_broken(elder, newer, 7, cap=700)
            if searched != -1:
                self.assertEqual(size if size is None or size <= 7 else None, searched, told(elder, newer))
            self.parts(elder, newer, size)
            seen.add(searched)
        self.assertLessEqual({None, 1, 2, 3, 4, 5, 7}, seen)

    def test_none_where_all_texts_are_kept(self):
        for elder, newer in random_pairs(52, 200, 5, 5):
            self.assertIs(parting_size(elder, newer) is None, kept(elder, newer))
        for edition in random_editions(52, 40, 6, 9):
            self.parts(edition, edition, None)

    def test_chains_of_forms(self):
        # The elder lets "!" by each frame, up to one that is high enough for its left level; the newer takes it at once.
        for many in range(7):
            elder = chain(many, many + 1)
            newer = changed(elder, ("level", ("hole", ("f", "_")), 0))
            self.parts(elder, newer, many + 3)
            # Nothing parts them if no form is high enough.
            low = changed(elder, ("level", ("left", "!"), many + 2))
            self.parts(low, changed(low, ("level", ("hole", ("f", "_")), 0)), None)
        for many in range(2):
            elder = chain(many, many + 1)
            newer = changed(elder, ("level", ("hole", ("f", "_")), 0))
            self.assertEqual(naive_pairs.shortest_broken(elder, newer, many + 3), many + 3)

    def test_stacks_that_one_of_both_cannot_have(self):
        # Only with "f _" on "g _" the elder would end both by "!"; and "f _" may not stand there.
        forms = [(("f", "_"), 1, (1,)), (("g", "_"), 2, (2,)), (("_", "!"), 0, (2,))]
        elder = Edition(forms, [])
        newer = changed_by(elder, [("level", ("hole", ("f", "_")), 0), ("level", ("hole", ("g", "_")), 1)])
        self.parts(elder, newer, None)
        self.parts(changed(elder, ("level", ("hole", ("g", "_")), 1)), newer, 4)
        self.parts(newer, elder, 3)

    def test_frames_that_wait(self):
        # What is behind the token at which they part ends what is open in the elder.
        forms = [(("[", "_", ",", "_", "]"), 1, (5, 5)), (("{", "_", ":", "_", "}"), 9, (3, 3)), (("_", "+", "_"), 3, (0, 4))]
        elder = Edition(forms, [])
        newer = changed(elder, ("level", ("tail", "+"), 2))
        self.parts(elder, newer, 7)
        self.assertIs(is_parting_text(elder, newer, cut("{ x + x : x }")), True)
        self.assertIs(is_parting_text(elder, newer, cut("{ x : x + x }")), True)
        self.assertIs(is_parting_text(elder, newer, cut("{ x : x , x }")), False)


class IsPartingTest(unittest.TestCase):

    def test_texts(self):
        for line in ("x * y + z", "x + y * z", "1 + 'a * b", "x + x * x"):
            self.assertIs(is_parting_text(SUMS, LOOSE, cut(line)), True, line)
        for line in ("( x * y ) + z", "x + y * z + z", "( x + y * z )", "x + y", "x * y * z", "x + + y z", "( x + y )", "", "x"):
            self.assertIs(is_parting_text(SUMS, LOOSE, cut(line)), False, line)
        # A longer one that parts them, too.
        self.assertIs(is_kept_text(SUMS, LOOSE, cut("( x + y * z )")), False)
        # One of this size that parts the other from it alone.
        less, more = Edition([PLUS], []), Edition([PLUS, NOT], ["not"])
        self.assertIs(is_parting_text(less, more, ["not"]), True)
        self.assertIs(is_parting_text(more, less, ["not"]), False)
        self.assertIs(is_parting_text(more, less, ["not", "x"]), True)

    def test_any_object(self):
        for thing in objects() + [tuple(cut("x + y * z")), "x+y*z", [cut("x + y * z")], cut("x + y * z") + [""]]:
            self.assertIs(is_parting_text(SUMS, LOOSE, thing), False)
            self.assertIs(is_unlike_text(SUMS, LOOSE, thing), False)
            # Where all texts are kept nothing is one.
            self.assertIs(is_parting_text(SUMS, SUMS, thing), False)
            self.assertIs(is_unlike_text(SUMS, SUMS, thing), False)

    def test_all_texts_of_the_size(self):
        for elder, newer in random_pairs(53, 40, 3, 3):
            size = parting_size(elder, newer)
            if size is not None and size <= 3:
                for text in naive_pairs.texts_read(elder, naive_pairs.tokens_of(elder, newer), 4, 700):
                    wanted = len(text) == size and naive_pairs.broken(elder, newer, text)
                    self.assertIs(is_parting_text(elder, newer, text), wanted, (told(elder, newer), text))


class UnlikeTest(unittest.TestCase):

    def test_either_way(self):
        minus, less, wide = (("_", "-", "_"), 4, (4, 5)), (("-", "_"), 8, (8,)), (("w", "_"), 8, (8,))
        plain, soft = Edition([minus, less], []), Edition([minus, less, wide], [])
        self.assertEqual([parting_size(plain, soft), parting_size(soft, plain)], [3, 2])
        for one, other in ((plain, soft), (soft, plain)):
            text = unlike_text(one, other)
            self.assertEqual(len(text), 2)
            self.assertIs(is_unlike_text(one, other, text), True)
            self.assertIs(is_unlike_text(one, other, ["w", "7"]), True)
            self.assertIs(is_unlike_text(one, other, ["-", "w"]), False)
            self.assertIs(is_unlike_text(one, other, ["w", "-", "x"]), False)
        self.assertIsNone(unlike_text(plain, plain))

    def test_many(self):
        for one, other in random_pairs(54, 150, 4, 4):
            sizes = [size for size in (parting_size(one, other), parting_size(other, one)) if size is not None]
            text = unlike_text(one, other)
            if not sizes:
                self.assertIsNone(text)
                continue
            self.assertEqual(len(text), min(sizes))
            self.assertTrue(naive_pairs.broken(one, other, text) or naive_pairs.broken(other, one, text))
            self.assertIs(is_unlike_text(one, other, text), True)
            self.assertIs(is_unlike_text(other, one, text), True)
            self.assertIs(is_unlike_text(one, other, ["("] + text + [")"]), False)
            self.assertIs(is_unlike_text(one, other, text[1:]), False)

    def test_of_one_size_both_ways(self):
        one, other = Edition([NOT], []), Edition([LET], ["let"])
        self.assertEqual([parting_size(one, other), parting_size(other, one)], [1, 4])
        for text, wanted in ((["let"], True), (["not", "x"], False), (["let", "x", "in", "x"], False)):
            self.assertIs(is_unlike_text(one, other, text), wanted)
        both = Edition([LET, NOT], ["let"]), Edition([LET, NOT], ["not"])
        for text in (["let"], ["not"]):
            self.assertIs(is_unlike_text(both[0], both[1], text), True)
            self.assertIs(is_unlike_text(both[1], both[0], text), True)
        self.assertIs(is_unlike_text(both[0], both[1], ["x"]), False)


class NamesTest(unittest.TestCase):

    def test_words_that_are_hard_now(self):
        forms = [NOT, LET, (("nil",), 9, ()), (("by", "_"), 1, (1,))]
        elder, newer = Edition(forms, ["nil", "by"]), Edition(forms, ["not", "let", "nil"])
        self.assertEqual(parting_names(elder, newer), ["let", "not"])
        self.assertEqual(parting_names(newer, elder), ["by"])
        self.assertEqual(parting_names(elder, elder), [])
        self.assertEqual(parting_names(Edition([], []), newer), ["let", "nil", "not"])
        self.assertEqual(parting_names(newer, Edition([], [])), [])
        for word in parting_names(elder, newer):
            self.assertIs(is_parting_text(elder, newer, [word]), True)

    def test_many(self):
        for elder, newer in random_pairs(55, 120, 4, 4):
            words = [token for token in naive_pairs.tokens_of(elder, newer) + ["zz"] if token.isalpha()]
            wanted = [word for word in words if read(elder, [word]) == ("read", ("name", word)) != read(newer, [word])]
            self.assertEqual(parting_names(elder, newer), sorted(wanted))
