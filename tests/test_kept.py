"""Points 40, 41, 43 and 46: kept texts, shared frames, and what editions do with a token."""

import unittest

from keptreadings.editions import Edition, changed
from keptreadings.errors import InvalidEdition, InvalidEditions, InvalidStack, InvalidToken, UnknownForm
from keptreadings.kept import deed, first_deed, is_kept_text, kept, kept_along, shared_frames
from keptreadings.reading import read, taken
from keptreadings.stacks import frames, is_stack
from keptreadings.tokens import cut
from tests import naive, naive_pairs
from tests.pairs import random_pairs, told
from tests.samples import LET, NOT, PLUS, TIMES, objects, random_editions

MINUS, NEG, WORD = (("_", "-", "_"), 5, (5, 6)), (("-", "_"), 7, (7,)), (("w", "_"), 3, (3,))
LATE = (("_", "*", "_"), 3, (3, 4))
SUMS, LOOSE = Edition([PLUS, TIMES], []), Edition([PLUS, LATE], [])
BEFORE, BEHIND = Edition([MINUS], []), Edition([MINUS, NEG, WORD], [])
BOTTOM, BRACKET = ("bottom",), ("bracket",)


class KeptTextTest(unittest.TestCase):

    def test_both_read_alike(self):
        for line in ("a", "a + b", "( a * b )", "a * b * c", "( a + b ) * c"):
            self.assertIs(is_kept_text(SUMS, LOOSE, cut(line)), True, line)
            self.assertIs(is_kept_text(LOOSE, SUMS, cut(line)), True, line)

    def test_both_read_to_other_trees(self):
        for line in ("a + b * c", "a * b + c", "( a * b + c )"):
            self.assertEqual([read(edition, cut(line))[0] for edition in (SUMS, LOOSE)], ["read", "read"], line)
            self.assertIs(is_kept_text(SUMS, LOOSE, cut(line)), False, line)
            self.assertIs(is_kept_text(LOOSE, SUMS, cut(line)), False, line)

    def test_read_by_one_alone(self):
        for line in ("w - x", "w w", "- x"):
            self.assertEqual([read(edition, cut(line))[0] for edition in (BEFORE, BEHIND)].count("read"), 2 if line == "w - x" else 1)
        self.assertIs(is_kept_text(BEHIND, BEFORE, cut("- x")), False)
        self.assertIs(is_kept_text(BEFORE, BEHIND, cut("- x")), True)
        self.assertIs(is_kept_text(BEFORE, BEHIND, cut("w - x")), False)
        self.assertIs(is_kept_text(BEHIND, BEFORE, cut("w - x")), False)
        self.assertIs(is_kept_text(Edition([NOT], []), Edition([NOT], ["not"]), ["not"]), False)
        self.assertIs(is_kept_text(Edition([NOT], ["not"]), Edition([NOT], []), ["not"]), True)

    def test_read_by_neither(self):
        for line in ("", "a b", "( a", "+", "a + + b"):
            self.assertIs(is_kept_text(SUMS, LOOSE, cut(line)), True, line)

    def test_many(self):
        for elder, newer in random_pairs(40, 60, 3, 3):
            for text in naive.all_texts(naive_pairs.tokens_of(elder, newer)[:6], 3):
                wanted = not naive_pairs.broken(elder, newer, text)
                self.assertIs(is_kept_text(elder, newer, text), wanted, (told(elder, newer), text))


class KeptTest(unittest.TestCase):

    def test_a_pattern_that_is_not_there(self):
        for form in (PLUS, LET, NOT):
            full = Edition([PLUS, LET, NOT], [])
            less = changed(full, ("out", form[0]))
            self.assertIs(kept(full, less), False)
            # By "let _ in _" the word "in" begins no value any more, which it does in the text "not in".
            self.assertIs(kept(less, full), form != LET)
        self.assertIs(kept(Edition([], []), Edition([NOT], [])), True)
        self.assertIs(kept(Edition([(("a", "b"), 1, ())], []), Edition([(("a", "b", "c"), 1, ())], [])), False)
        self.assertIs(kept(Edition([(("a", "b"), 1, ())], []), Edition([(("a", "b"), 1, ()), (("a", "b", "c"), 1, ())], [])), True)

    def test_hard_words(self):
        soft, hard = Edition([NOT, PLUS], []), Edition([NOT, PLUS], ["not"])
        self.assertIs(kept(soft, hard), False)
        self.assertIs(kept(hard, soft), True)
        # The word that comes behind the hard word is a name there, and does not begin a value.
        stray = [(("a", "_"), 5, (0,)), (("f", "_", "b", "_"), 5, (0, 0))]
        self.assertIs(kept(Edition(stray, ["a"]), Edition(stray, [])), False)

    def test_levels(self):
        self.assertIs(kept(SUMS, LOOSE), False)
        self.assertIs(kept(LOOSE, SUMS), False)
        self.assertIs(kept(SUMS, changed(SUMS, ("level", ("hole", PLUS[0]), 6))), True)
        self.assertIs(kept(SUMS, changed(SUMS, ("level", ("hole", PLUS[0]), 7))), False)

    def test_itself(self):
        for edition in random_editions(41, 60, 6, 9):
            self.assertIs(kept(edition, edition), True)

    def test_held_against_all_texts(self):
        kinds = set()
        for elder, newer in random_pairs(42, 220, 3, 3):
            texts = naive_pairs.broken_texts(elder, newer, 4, 1500)
            answer = kept(elder, newer)
            if texts:
                self.assertIs(answer, False, (told(elder, newer), texts[0]))
            if not answer:
                # There is a broken text then, if perhaps a longer one.
                size = min([len(text) for text in texts], default=None) or naive_pairs.shortest_broken(elder, newer, 7)
                self.assertIsNotNone(size, told(elder, newer))
            kinds.add((answer, bool(texts)))
        self.assertEqual(kinds, {(True, False), (False, True), (False, False)})

    def test_where_all_is_done_alike_up_to_a_token(self):
        # Whatever both did alike so far: if they do a token unlike, they never come to one tree.
        for elder, newer in random_pairs(43, 40, 3, 3):
            for text in naive_pairs.texts_read(elder, naive_pairs.tokens_of(elder, newer), 4, 600):
                if taken(elder, text) != taken(newer, text):
                    self.assertNotEqual(read(elder, text), read(newer, text))


class SharedFramesTest(unittest.TestCase):

    def test_frames(self):
        plus, times = ("form", PLUS[0]), ("form", TIMES[0])
        self.assertEqual(shared_frames(SUMS, LOOSE), [BRACKET, times, plus])
        self.assertEqual(shared_frames(SUMS, Edition([], [])), [BRACKET])
        self.assertEqual(shared_frames(Edition([], []), Edition([], [])), [BRACKET])
        self.assertEqual(shared_frames(Edition([LET], []), Edition([LET], ["let"])),
                         [BRACKET, ("form", ("let", "_")), ("form", LET[0])])
        # A place of both counts, whatever follows; where one goes on by a hole and the other one by a token there is none.
        one, other = Edition([(("a", "_", "b"), 1, (1,))], []), Edition([(("a", "_", "c"), 1, (1,)), (("b", "c", "_"), 1, (1,))], [])
        self.assertEqual(shared_frames(one, other), [BRACKET, ("form", ("a", "_"))])
        self.assertEqual(shared_frames(one, Edition([(("a", "b", "_"), 1, (1,))], [])), [BRACKET])

    def test_all_stacks_of_both(self):
        for elder, newer in random_pairs(44, 150, 5, 5):
            both = [frame for frame in frames(elder) if frame in frames(newer)]
            reached = [frame for frame in both if is_stack(elder, [frame]) and is_stack(newer, [frame])]
            self.assertEqual(shared_frames(elder, newer), reached)
            self.assertEqual(shared_frames(newer, elder), shared_frames(elder, newer))

    def test_each_frame_of_both_stands_on_the_bottom(self):
        # The bottom asks for no level, so that a frame is left out only if one of both has not got it.
        low = Edition([(("a", "_"), 0, (9,)), (("b", "_"), 0, (9,))], [])
        self.assertEqual(shared_frames(low, low), frames(low))
        self.assertEqual(shared_frames(low, Edition([(("b", "_"), 1, (9,)), (("c", "_"), 0, (9,))], [])), [BRACKET, ("form", ("b", "_"))])


class DeedTest(unittest.TestCase):

    HERE = Edition([PLUS, TIMES, LET, NOT, (("if", "_", "then", "_"), 2, (0, 3)), (("if", "_", "then", "_", "else", "_"), 2, (0, 3, 2)),
                    (("[", "_", "]"), 1, (0,)), (("_", "!"), 9, (9,)), (("_", "!", "?"), 9, (9,))], ["let"])

    def test_each_outcome(self):
        plus, times, then = ("form", PLUS[0]), ("form", TIMES[0]), ("form", ("if", "_", "then", "_"))
        rows = [
            (None, BOTTOM, "", ("take", ())), (None, BRACKET, ")", ("take", ())), (None, BOTTOM, ")", ("fault",)),
            (None, BRACKET, "", ("fault",)), (None, ("form", ("let", "_")), "in", ("take", ("let", "_", "in"))),
            (None, then, "else", ("take", ("if", "_", "then", "_", "else"))), (None, ("form", ("if", "_")), "else", ("fault",)),
            (None, plus, "*", ("tail", ("_", "*"))), (None, plus, "+", ("end",)), (None, times, "*", ("end",)),
            (None, BOTTOM, "+", ("tail", ("_", "+"))), (PLUS[0], BOTTOM, "*", ("fault",)), (PLUS[0], BOTTOM, "+", ("tail", ("_", "+"))),
            (PLUS[0], times, "*", ("end",)), (("_", "!"), BOTTOM, "?", ("on", ("_", "!", "?"))), (("_", "!"), times, "?", ("on", ("_", "!", "?"))),
            (("_", "!", "?"), BOTTOM, "!", ("tail", ("_", "!"))), (("_", "!"), BOTTOM, "!", ("tail", ("_", "!"))), (NOT[0], BOTTOM, "!", ("fault",)),
            (("if", "_", "then", "_"), BOTTOM, "else", ("on", ("if", "_", "then", "_", "else"))),
            (("if", "_", "then", "_"), then, "else", ("on", ("if", "_", "then", "_", "else"))),
            (("if", "_", "then", "_"), plus, "in", ("end",)), (LET[0], ("form", ("let", "_")), "in", ("take", ("let", "_", "in"))),
            (None, ("form", ("[", "_")), "]", ("take", ("[", "_", "]"))), (None, ("form", ("[", "_")), "then", ("fault",)),
            (None, plus, ")", ("end",)), (None, plus, "", ("end",)), (None, ("form", ("let", "_")), "", ("fault",)),
        ]
        for value, frame, token, wanted in rows:
            self.assertEqual(deed(self.HERE, value, frame, token), wanted, (value, frame, token))
        self.assertEqual({row[3][0] for row in rows}, {"on", "take", "tail", "end", "fault"})

    def test_any_string(self):
        for token in ("x", "1", "(", "'a", "a b", "A", "_", "$", " ", "then", "a" * 99):
            self.assertEqual(deed(self.HERE, None, ("form", PLUS[0]), token), ("end",), token)
            self.assertEqual(deed(self.HERE, TIMES[0], BOTTOM, token), ("fault",), token)
            self.assertEqual(deed(self.HERE, None, ("form", ("let", "_")), token), ("fault",), token)

    def test_first_deeds(self):
        rows = [
            (BOTTOM, "w", "", ("name",)), (BOTTOM, "in", "x", ("name",)), (BOTTOM, "+", "x", ("fault",)), (BOTTOM, ",", "x", ("fault",)),
            (BOTTOM, "let", "", ("head", ("let",))), (BOTTOM, "let", "+", ("head", ("let",))), (BOTTOM, "[", ")", ("head", ("[",))),
            (BOTTOM, "not", "x", ("head", ("not",))), (BOTTOM, "not", "1", ("head", ("not",))), (BOTTOM, "not", "'x", ("head", ("not",))),
            (BOTTOM, "not", "(", ("head", ("not",))), (BOTTOM, "not", "[", ("head", ("not",))), (BOTTOM, "not", "let", ("head", ("not",))),
            (BOTTOM, "not", "then", ("name",)), (BOTTOM, "not", "+", ("name",)), (BOTTOM, "not", "", ("name",)), (BOTTOM, "not", ")", ("name",)),
            (BOTTOM, "not", "x y", ("name",)), (BOTTOM, "not", "X", ("name",)), (BOTTOM, "not", "01", ("name",)), (BOTTOM, "not", "_", ("name",)),
            (("form", PLUS[0]), "let", "x", ("fault",)), (("form", PLUS[0]), "if", "x", ("fault",)), (("form", PLUS[0]), "if", "+", ("name",)),
            (("form", PLUS[0]), "not", "x", ("head", ("not",))), (("form", PLUS[0]), "[", "x", ("fault",)), (BRACKET, "[", "x", ("head", ("[",))),
            (("form", ("let", "_")), "let", "x", ("head", ("let",))),
        ]
        for frame, token, after, wanted in rows:
            self.assertEqual(first_deed(self.HERE, frame, token, after), wanted, (frame, token, after))
        by = Edition([(("go", "by", "_"), 3, (0,))], [])
        self.assertEqual([first_deed(by, BOTTOM, "go", after) for after in ("by", "x", "", "go")], [("head", ("go",))] + [("name",)] * 3)

    def test_many(self):
        for edition in random_editions(45, 40, 5, 4):
            here = [BOTTOM] + frames(edition)
            tokens = naive.tokens_of(edition) + ["", "!", "x y"]
            values = [None] + [form[0] for form in edition.forms()]
            for frame in here:
                for token in tokens:
                    for value in values:
                        self.assertEqual(deed(edition, value, frame, token), naive_pairs.deed(edition, value, frame, token))
                for token in [token for token in tokens if token in ("+", "-", "!") or token.isalpha()]:
                    for after in tokens:
                        wanted = naive_pairs.first_deed(edition, frame, token, after)
                        self.assertEqual(first_deed(edition, frame, token, after), wanted)

    def test_errors_in_order(self):
        wrong_values = [("_", "+"), (), "x", True, 0, ["_", "+", "_"], list(PLUS[0]), (PLUS[0],), (("_", "-", "_")), []]
        wrong_frames = [None, (), ("form", ("_", "+")), ("form", list(PLUS[0])), ["bottom"], "bottom", ("bracket", 1), True, {}]
        for value in wrong_values:
            for frame in wrong_frames[:3] + [BOTTOM]:
                for token in (None, 1, "+"):
                    with self.assertRaises(UnknownForm) as caught:
                        deed(self.HERE, value, frame, token)
                    self.assertIs(caught.exception.value, value)
                    with self.assertRaises(InvalidEdition):
                        deed(value, value, frame, token)
        for frame in wrong_frames:
            for token in (None, 1, "+"):
                with self.assertRaises(InvalidStack) as caught:
                    deed(self.HERE, None, frame, token)
                self.assertIs(caught.exception.value, frame)
                with self.assertRaises(InvalidStack) as caught:
                    first_deed(self.HERE, frame, token, token)
                self.assertIs(caught.exception.value, frame)
                with self.assertRaises(InvalidEdition):
                    first_deed(frame, frame, token, token)
        for token in [thing for thing in objects() if not isinstance(thing, str)]:
            with self.assertRaises(InvalidToken) as caught:
                deed(self.HERE, PLUS[0], BRACKET, token)
            self.assertIs(caught.exception.value, token)
            with self.assertRaises(InvalidToken) as caught:
                first_deed(self.HERE, BRACKET, "not", token)
            self.assertIs(caught.exception.value, token)
        for token in ["", "_", "(", ")", "1", "'a", "A", "a b", "abcdefghi", "++"] + [thing for thing in objects() if not isinstance(thing, str)]:
            for after in ("x", None, token):
                with self.assertRaises(InvalidToken) as caught:
                    first_deed(self.HERE, BRACKET, token, after)
                self.assertIs(caught.exception.value, token)


class AlongTest(unittest.TestCase):

    STEPS = [Edition([PLUS], []), Edition([PLUS, NOT], []), Edition([PLUS, NOT, (("[", "_", "]"), 1, (0,))], [])]

    def test_lists(self):
        first, second, third = self.STEPS
        self.assertIs(kept(first, second) and kept(second, third), True)
        for editions in ([first], [second], self.STEPS, [first] * 4, [first, second, second, first]):
            self.assertIs(kept_along(editions), True)
        self.assertIs(kept_along([second, first]), False)
        self.assertIs(kept_along([first, second, Edition([TIMES], [])]), False)

    def test_each_is_asked_against_the_first(self):
        first, second, _ = self.STEPS
        later = Edition([PLUS], [])
        # The one between has texts that the last one breaks, which the first one does not read.
        self.assertIs(kept(second, later), False)
        self.assertIs(kept_along([first, second, later]), True)
        self.assertIs(kept_along([first, Edition([], []), second]), False)

    def test_each_keeps_all_of_the_one_ahead(self):
        for one, other in random_pairs(46, 80, 3, 3):
            for third in (one, other, Edition([], [])):
                wanted = kept(one, other) and kept(one, third)
                self.assertIs(kept_along([one, other, third]), wanted)

    def test_what_is_no_list_of_editions(self):
        for wrong in [[], (SUMS,), SUMS, None, [SUMS, None], [[SUMS]], {0: SUMS}, [None], "", (), [SUMS, [SUMS]], [SUMS, SUMS.forms()]]:
            with self.assertRaises(InvalidEditions) as caught:
                kept_along(wrong)
            self.assertIs(caught.exception.value, wrong)
