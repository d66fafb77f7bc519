"""Points 25 and 26: starts, and what may come."""

import random
import unittest

from keptreadings.coming import first_dead, is_start, may_come
from keptreadings.editions import Edition
from keptreadings.reading import read
from keptreadings.tokens import cut
from tests import naive
from tests.samples import LET, NOT, PLUS, TIMES, random_editions

HERE = Edition([PLUS, TIMES, LET, NOT], ["let"])
LOW = Edition([TIMES, (("w", "_"), 1, (0,))], [])
NONE = Edition([(("if", "_", "then", "_"), 1, (5, 1)), (("then", "_"), 3, (0,)), (("w", "_"), 0, (0,))], [])


class StartTest(unittest.TestCase):

    def dead(self, edition, line, at):
        tokens = cut(line)
        self.assertEqual(first_dead(edition, tokens), at, line)
        self.assertIs(is_start(edition, tokens), at is None, line)
        self.assertEqual(may_come(edition, tokens) is None, at is not None, line)

    def test_starts(self):
        for line in ("", "(", "a", "a +", "let", "let a in", "not", "not not", "( ( 1", "a + ( let x in", "let in", "'let *"):
            self.dead(HERE, line, None)

    def test_the_fault_is_the_first_dead_token(self):
        for line, at in ((")", 0), ("a b", 1), ("a )", 1), ("( )", 1), ("+", 0), ("a + let x", 2), ("let a + + b", 3),
                         ("( a in", 2), ("let a )", 2), ("not in x", 1)):
            self.dead(HERE, line, at)
            self.assertEqual(read(HERE, cut(line)), ("fault", at))

    def test_the_first_dead_token_behind_the_fault(self):
        self.assertEqual(read(LOW, cut("a * w x")), ("fault", 2))
        self.dead(LOW, "a * w x", 3)
        self.dead(LOW, "a * w", None)
        self.dead(LOW, "a * w * w 1", 5)
        self.dead(LOW, "( a * w )", None)
        self.dead(LOW, "( a * w (", 4)

    def test_the_first_dead_token_ahead_of_the_fault(self):
        self.dead(NONE, "if w ,", 1)
        self.assertEqual(read(NONE, cut("if w ,")), ("fault", 2))
        self.dead(NONE, "if w", 1)
        self.assertEqual(read(NONE, cut("if w")), ("fault", 2))
        self.dead(NONE, "if", None)
        self.dead(NONE, "if (w", None)
        self.dead(NONE, "if then", 1)
        self.dead(NONE, "if 'w then w", None)

    def test_a_soft_word_that_can_be_a_name(self):
        forms = [(("if", "_", "then", "_"), 1, (5, 1)), (("w", "_"), 0, (0,))]
        # A middle token that begins no value, a tail token, a bracket, or the end lets it be a name.
        self.dead(Edition(forms, []), "if w", None)
        self.assertEqual(may_come(Edition(forms, []), cut("if w")), (["then"], False, False, False))
        both = forms + [(("then", "_"), 3, (0,))]
        self.dead(Edition(both, []), "if w", 1)
        tails = both + [(("_", "!"), 6, (9,))]
        self.dead(Edition(tails, []), "if w", None)
        self.assertEqual(may_come(Edition(tails, []), cut("if w")), (["!"], False, False, False))
        low = both + [(("_", "!"), 4, (9,))]
        self.dead(Edition(low, []), "if w", 1)
        begun = tails + [(("!", "_"), 6, (9,))]
        self.dead(Edition(begun, []), "if w", 1)
        self.dead(Edition(both, []), "if x then w", None)
        self.assertEqual(may_come(Edition(both, []), cut("if x then w")), ([], False, False, True))
        self.assertEqual(may_come(Edition(both, []), cut("( if x then w")), ([], False, True, False))

    def test_a_soft_word_by_the_token_that_follows_it(self):
        # Only the token that follows the word would come, and makes it a form that is too low.
        forms = [(("f", "_", "by"), 9, (5,)), (("w", "by"), 0, ())]
        self.dead(Edition(forms, []), "f w", 1)
        self.dead(Edition([(("f", "_", "by"), 9, (5,)), (("w", "to"), 0, ())], []), "f w", None)
        self.dead(Edition([(("f", "_", "by"), 9, (5,)), (("w", "by"), 5, ())], []), "f w", None)
        self.dead(Edition([(("f", "_"), 9, (5,)), (("w", "by"), 0, ())], []), "f w", None)

    def test_hard_words_and_signs_that_are_too_low(self):
        edition = Edition([PLUS, (("w", "_"), 1, (0,)), (("-", "_"), 1, (0,))], ["w"])
        self.dead(edition, "a + w", 2)
        self.dead(edition, "a + -", 2)
        self.dead(edition, "a + (w - -", None)

    def test_starts_end_nowhere_again(self):
        for edition in (HERE, LOW, NONE):
            for text in naive.all_texts(naive.tokens_of(edition), 3):
                at = first_dead(edition, text)
                for many in range(len(text) + 1):
                    self.assertIs(is_start(edition, text[:many]), at is None or many <= at)


class MayComeTest(unittest.TestCase):

    def test_at_the_beginning(self):
        self.assertEqual(may_come(HERE, []), (["let", "not"], True, False, False))
        self.assertEqual(may_come(Edition([], []), []), ([], True, False, False))
        self.assertEqual(may_come(Edition([], []), ["("]), ([], True, False, False))
        self.assertEqual(may_come(Edition([], []), ["(", "a"]), ([], False, True, False))
        self.assertEqual(may_come(Edition([], []), ["a"]), ([], False, False, True))

    def test_no_token_is_told_twice(self):
        minus = Edition([(("-", "_"), 8, (8,)), (("_", "-", "_"), 4, (4, 5))], [])
        self.assertEqual(may_come(minus, []), (["-"], True, False, False))
        self.assertEqual(may_come(minus, ["a"]), (["-"], False, False, True))
        both = Edition([(("by", "_", "by", "_", "by"), 1, (0, 0)), (("by", "_", "at"), 1, (0,))], [])
        self.assertEqual(may_come(both, ["by"]), (["by"], True, False, True))
        self.assertEqual(may_come(both, ["by", "x"]), (["at", "by"], False, False, False))

    def test_where_tokens_are_due(self):
        edition = Edition([(("a", "b", "_"), 1, (0,)), (("a", "c"), 1, ()), (("_", "!"), 2, (0,))], ["a"])
        self.assertEqual(may_come(edition, ["a"]), (["b", "c"], False, False, False))
        self.assertEqual(may_come(edition, ["a", "c"]), (["!"], False, False, True))
        self.assertEqual(may_come(edition, ["a", "b"]), (["a"], True, False, False))
        self.assertEqual(may_come(edition, ["(", "a", "b", "1"]), (["!"], False, True, False))

    def test_a_soft_word_may_be_both(self):
        self.assertEqual(may_come(HERE, cut("a * not")), (["*", "+", "not"], True, False, True))
        self.assertEqual(may_come(HERE, cut("let not")), (["*", "+", "in", "not"], True, False, False))
        self.assertEqual(may_come(LOW, cut("a * w")), (["*"], False, False, True))
        self.assertEqual(may_come(LOW, cut("w")), (["*", "w"], True, False, True))

    def test_behind_no_start(self):
        for line in ("a b", ")", "a + + b", "( a ) )"):
            self.assertIsNone(may_come(HERE, cut(line)))
        self.assertIsNone(may_come(NONE, ["if", "w"]))

    def test_one_token_more(self):
        # Each kind of token that may come makes a start, and each other one makes none.
        for edition in [HERE, LOW, NONE] + random_editions(26, 25, 4, 3):
            for text in naive.all_texts(naive.tokens_of(edition), 2):
                told = may_come(edition, text)
                if told is None:
                    continue
                _, value, close, end = told
                for token in ("1", "'a", "(", "zz"):
                    self.assertIs(is_start(edition, text + [token]), value, (edition.forms(), text))
                self.assertIs(is_start(edition, text + [")"]), close)
                self.assertIs(end, read(edition, text)[0] == "read")

    def test_held_against_read(self):
        source = random.Random(25)
        for edition in [HERE, LOW, NONE] + random_editions(25, 120, 6, 3):
            rows = list(naive.all_texts([token for token in naive.tokens_of(edition) if token != "q"], 3))
            starts = [text for text in source.sample(rows, min(100, len(rows))) if is_start(edition, text)]
            others = [text for text in source.sample(rows, min(5, len(rows))) if not is_start(edition, text)]
            for text in starts[:6] + others:
                self.assertEqual(may_come(edition, text), self.told_by_texts(edition, text), (edition.forms(), text))

    def told_by_texts(self, edition, text):
        """What may come, by texts that are read."""
        if naive.some_text(edition, text, None, 200) is None:
            return None
        fixed = {item for form in edition.forms() for item in form[0] if item != "_"}
        told = [token for token in sorted(fixed) if naive.some_text(edition, text + [token], "form", 200)]
        value = naive.some_text(edition, text + ["1"], "number", 200) is not None
        close = naive.some_text(edition, text + [")"], "close", 200) is not None
        return (told, value, close, naive.read(edition, text)[0] == "read")
