"""Points 10 to 12: tokens, texts and lines."""

import unittest
from itertools import product

from keptreadings.editions import Edition
from keptreadings.errors import InvalidCount, InvalidText, InvalidToken
from keptreadings.tokens import cut, free_words, is_token, kind, line_of, tight_line, unmarked
from tests import judges
from tests.samples import LET, NOT, PLUS, objects

SIGNS = "+ - * / < > = . , ; : ! ? & | @ ^ ~ [ ] { }".split()
BAD = ["", "$", "%", "#", "\\", "`", '"', "_", "A", "aB", "a1", "1a", "++", "()", "''", "'a'", "a ", " a", "\n", "a\n"]
SOME = ["a", "ab", "abcdefgh", "0", "7", "12345678", "+", "-", "(", ")", "'a", "'abcdefgh"]


class TokenTest(unittest.TestCase):

    def test_words(self):
        for many in range(1, 9):
            self.assertTrue(is_token("z" * many))
            self.assertEqual(kind("a" * many), "word")
        for bad in ("", "z" * 9, "A", "aZ", "a_", "a-b"):
            self.assertIs(is_token(bad), False)

    def test_numbers(self):
        for many in range(1, 9):
            self.assertTrue(is_token("1" * many))
            self.assertEqual(kind("9" * many), "number")
        self.assertEqual(kind("0"), "number")
        self.assertEqual(kind("10"), "number")
        for bad in ("00", "01", "1" * 9, "-1", "1.", "012"):
            self.assertIs(is_token(bad), False)

    def test_signs(self):
        self.assertEqual(len(SIGNS), 22)
        for sign in SIGNS:
            self.assertTrue(is_token(sign))
            self.assertEqual(kind(sign), "sign")
        taken = [chr(at) for at in range(128) if is_token(chr(at))]
        wanted = SIGNS + ["(", ")"] + [chr(at) for at in range(128) if chr(at).isalnum() and not chr(at).isupper()]
        self.assertEqual(sorted(taken), sorted(wanted))

    def test_other_letters_and_figures(self):
        for at in (0xb2, 0xdf, 0xe9, 0x3b1, 0x661, 0xff11, 0xff41):
            self.assertIs(is_token(chr(at)), False)
            self.assertIs(is_token("'" + chr(at)), False)

    def test_brackets_and_quoted_words(self):
        self.assertEqual([kind("("), kind(")")], ["open", "close"])
        for many in range(1, 9):
            self.assertEqual(kind("'" + "q" * many), "quoted")
        for bad in ("'", "'1", "'+", "'A", "''a", "'" + "q" * 9, "a'", "'a'"):
            self.assertIs(is_token(bad), False)
            with self.assertRaises(InvalidToken) as caught:
                kind(bad)
            self.assertEqual(caught.exception.value, bad)

    def test_any_object(self):
        for thing in objects() + BAD + SIGNS:
            self.assertIs(is_token(thing), judges.token(thing))


class LineTest(unittest.TestCase):

    def test_each_kind_beside_each(self):
        for one, other in product(SOME, repeat=2):
            text = [one, other]
            self.assertEqual(cut(one + " " + other), text)
            self.assertEqual(cut("  " + one + "   " + other + " "), text)
            letters = other.isalpha() and one[-1].isalpha()
            figures = one.isdigit() and other.isdigit()
            if letters or figures:
                self.check_no_text_but_a_run(one + other, text)
            else:
                self.assertEqual(cut(one + other), text)

    def check_no_text_but_a_run(self, line, text):
        if judges.token(line):
            self.assertEqual(cut(line), [line])
        else:
            self.refused(line)

    def refused(self, line):
        with self.assertRaises(InvalidText) as caught:
            cut(line)
        self.assertIs(caught.exception.value, line)

    def test_runs(self):
        self.assertEqual(cut("abcdefgh12345678abcdefgh"), ["abcdefgh", "12345678", "abcdefgh"])
        for line in ("abcdefghi", "a abcdefghi", "123456789", "'abcdefghi", "a1b123456789", "01", "a01", "00", "1 00"):
            self.refused(line)
        self.assertEqual(cut("a0"), ["a", "0"])
        self.assertEqual(cut("10"), ["10"])
        self.assertEqual(cut("0 1"), ["0", "1"])

    def test_quotes(self):
        self.assertEqual(cut("'a'b"), ["'a", "'b"])
        self.assertEqual(cut("a'b1"), ["a", "'b", "1"])
        for line in ("'", "' a", "'1", "''a", "a'", "'+", "'('", "'A"):
            self.refused(line)

    def test_blanks_and_other_signs(self):
        self.assertEqual(cut(""), [])
        self.assertEqual(cut("     "), [])
        for blank in ("\t", "\n", "\r", "\x0b", "\x0c", "\xa0", "\x00", "\u2003"):
            self.refused("a" + blank + "b")
            self.refused(blank)
        for sign in "$%#_\\`\"AZ\xe9":
            self.refused("a " + sign)

    def test_any_object(self):
        for thing in objects():
            if judges.line(thing):
                self.assertEqual(cut(line_of(cut(thing))), cut(thing))
            else:
                self.refused(thing)

    def test_cut_gives_the_text_back(self):
        for many in range(4):
            for row in product(SOME, repeat=many):
                text = list(row)
                self.assertEqual(cut(line_of(text)), text)
                self.assertEqual(cut(tight_line(text)), text)
        self.assertEqual(line_of([]), "")
        self.assertEqual(tight_line([]), "")
        self.assertEqual(line_of(["a", "(", "1"]), "a ( 1")

    def test_tight_line_is_the_one_shortest(self):
        few = ["a", "b", "1", "2", "+", "'a", "("]
        for row in product(few, repeat=3):
            text = list(row)
            lines = []
            for blanks in product(["", " "], repeat=2):
                line = row[0] + blanks[0] + row[1] + blanks[1] + row[2]
                if judges.line(line) and cut(line) == text:
                    lines.append(line)
            least = min(len(line) for line in lines)
            self.assertEqual([line for line in lines if len(line) == least], [tight_line(text)])


class UnmarkedTest(unittest.TestCase):

    def test_unmarked(self):
        self.assertEqual(unmarked([]), [])
        self.assertEqual(unmarked(["(", "(", ")"]), [])
        self.assertEqual(unmarked(["(", "'a", "a", ")", "1", "[", "'if"]), ["a", "a", "1", "[", "if"])

    def test_free_words(self):
        letters = [chr(at) for at in range(97, 123)]
        self.assertEqual(free_words([], 0), [])
        self.assertEqual(free_words([], 1), ["a"])
        self.assertEqual(free_words([], 26), letters)
        self.assertEqual(free_words([Edition([PLUS], [])], 27), letters + ["aa"])
        wanted = letters + [one + other for one in letters for other in letters]
        wanted = wanted + [one + other for one in wanted[26:] for other in letters]
        self.assertEqual(free_words([], 1000), wanted[:1000])

    def test_free_words_of_editions(self):
        one = Edition([(("a", "_", "c"), 1, (1,)), (("_", "aa", "_"), 1, (1, 1)), (("z",), 1, ())], ["z"])
        other = Edition([(("_", "b"), 1, (1,)), LET, NOT], ["let"])
        letters = [chr(at) for at in range(97, 123)]
        self.assertEqual(free_words([one, other], 25), letters[3:25] + ["ab", "ac", "ad"])
        self.assertEqual(free_words([other], 2), ["a", "c"])
        self.assertNotIn("let", free_words([other], 1000))
        self.assertNotIn("aa", free_words([one], 1000))
        self.assertIn("aa", free_words([other], 1000))

    def test_bounds(self):
        for many in (-1, 1001, 10 ** 30, True, False, None, "1", [1]):
            with self.assertRaises(InvalidCount) as caught:
                free_words([], many)
            self.assertIs(caught.exception.value, many)
