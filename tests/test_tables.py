"""Points 42, 44 and 45: rows and the tables that tell that all texts are kept."""

import random
import unittest

from keptreadings.editions import Edition, changed
from keptreadings.kept import is_kept_table, kept, kept_table
from tests import naive_pairs
from tests.naive_pairs import BOTTOM, BRACKET, Tables
from tests.pairs import random_pairs, told
from tests.samples import LET, NOT, PLUS, TIMES, objects

MINUS, BOX = (("_", "-", "_"), 5, (5, 6)), (("[", "_", "]"), 1, (0,))
IF, ELSE = (("if", "_", "then", "_"), 2, (0, 2)), (("if", "_", "then", "_", "else", "_"), 2, (0, 2, 2))
ELDER, NEWER = Edition([PLUS, IF, BOX], []), Edition([PLUS, IF, BOX, (("_", ",", "_"), 1, (1, 1))], [])


def without(rows, row):
    return [other for other in rows if other != row]


class TableTest(unittest.TestCase):

    def held(self, elder, newer, rows, wanted, row=None):
        message = (told(elder, newer), row)
        self.assertIs(is_kept_table(elder, newer, rows), wanted, message)
        self.assertIs(Tables(elder, newer).is_table(rows), wanted, message)

    def test_a_table_is_one(self):
        for elder, newer in ((ELDER, NEWER), (ELDER, ELDER), (NEWER, NEWER), (Edition([], []), NEWER), (Edition([], []), Edition([], []))):
            rows = kept_table(elder, newer)
            self.held(elder, newer, rows, True)
            self.held(elder, newer, rows[::-1], True)
            self.assertEqual(len(set(rows)), len(rows))

    def test_there_is_one_just_if_all_texts_are_kept(self):
        for elder, newer in random_pairs(47, 400, 4, 3):
            rows = kept_table(elder, newer)
            self.assertIs(rows is not None, kept(elder, newer), told(elder, newer))
            if rows is not None:
                self.held(elder, newer, rows, True)

    def test_the_newer_lacks_a_pattern(self):
        self.assertIsNone(kept_table(NEWER, ELDER))
        for row in kept_table(NEWER, NEWER):
            if ("_", ",", "_") not in row and "," not in row:
                self.assertIs(is_kept_table(NEWER, ELDER, [row]), False)
        less = changed(ELDER, ("out", BOX[0]))
        rows = [row for row in Tables(ELDER, less).all_rows() if row[0] != "elder"]
        self.held(ELDER, less, rows, False)

    def test_each_row_of_a_least_table_is_needed(self):
        for elder, newer in ((ELDER, NEWER), (Edition([PLUS], []), Edition([PLUS, NOT], [])), (Edition([IF, ELSE], []), Edition([IF, ELSE, NOT], []))):
            rows = kept_table(elder, newer)
            for row in rows:
                self.held(elder, newer, without(rows, row), False, row)

    def test_rows_more(self):
        rows = kept_table(ELDER, NEWER)
        tables = Tables(ELDER, NEWER)
        seen = set()
        for row in tables.all_rows():
            if row not in rows:
                wanted = tables.is_table(rows + [row])
                self.assertIs(is_kept_table(ELDER, NEWER, rows + [row]), wanted, row)
                seen.add((row[0], wanted))
        self.assertEqual(seen, {("had", True), ("elder", True), ("elder", False)})

    def test_doubles(self):
        rows = kept_table(ELDER, NEWER)
        for row in rows[::7]:
            self.assertIs(is_kept_table(ELDER, NEWER, rows + [row]), False)

    def test_what_is_no_row(self):
        rows = kept_table(ELDER, NEWER)
        plus = ("form", PLUS[0])
        wrong = [
            ("had", (",",), BOTTOM, ""), ("had", ("_", ",", "_"), BOTTOM, ""), ("elder", ("_", "+"), BOTTOM, "+"), ("had", None, ("form", ("_", ",", "_")), ""),
            ("wanted", ("form", ("_", ",", "_"))), ("wanted", ("form", ("_", "+"))), ("had", None, BOTTOM, ","), ("had", None, BOTTOM, "if"),
            ("had", None, BOTTOM, "("), ("had", None, BOTTOM, "x"), ("had", None, BOTTOM, "_"), ("had", None, BOTTOM), ("had", BOTTOM, ""),
            ["wanted", plus], ("wanted", ["form", PLUS[0]]), ("wanted", ("form", list(PLUS[0]))), ("wanted",), (), ("wanted", plus, "+"),
            ("had", None, plus, ["+"]), ("had", None, plus, None), ("had", False, plus, "+"), ("had", list(PLUS[0]), BOTTOM, "+"),
            ("had", (None,), plus, "+"), ("newer", None, plus, "+"), ("newer", None, BOTTOM, "]"), ("Wanted", plus), (None, plus), ("had", None, plus, "+", ""),
        ]
        for row in wrong + [thing for thing in objects() if thing not in Tables(ELDER, NEWER).all_rows()]:
            self.assertIs(is_kept_table(ELDER, NEWER, rows + [row]), False, row)
            self.assertIs(is_kept_table(ELDER, NEWER, [row] + rows[1:]), False, row)

    def test_any_object(self):
        rows = kept_table(ELDER, NEWER)
        for thing in objects() + [tuple(rows), {row: True for row in rows}, [rows], [list(row) for row in rows], rows[0]]:
            self.assertIs(is_kept_table(ELDER, NEWER, thing), False)

    def test_held_row_by_row(self):
        source = random.Random(48)
        seen = set()
        for elder, newer in random_pairs(48, 90, 2, 3):
            tables = Tables(elder, newer)
            every, least = tables.all_rows(), kept_table(elder, newer)
            lists = [[], every, [row for row in every if row[0] != "elder"]]
            if least is not None:
                spare = [row for row in every if row not in least]
                lists += [least, least[1:], least + source.sample(spare, min(len(spare), 2)), without(least, source.choice(least))]
                lists += [[row for row in every if row in least or source.random() < 0.5]]
            for rows in lists:
                wanted = tables.is_table(rows)
                self.assertIs(is_kept_table(elder, newer, rows), wanted, (told(elder, newer), rows))
                seen.add((wanted, least is None))
        self.assertEqual(seen, {(True, False), (False, False), (False, True)})


class SentenceTest(unittest.TestCase):
    """Each sentence of [44], by tables that are none for its sake alone."""

    def rows(self, elder, newer):
        """All that a table may have, if nothing were broken."""
        tables = Tables(elder, newer)
        found = [("wanted", BOTTOM)]
        for row in found:
            needs = tables.asked_by([one for one in tables.all_rows() if one[0] == "wanted"], row)
            found.extend([need for need in needs or [] if need not in found])
        return found

    def broken_by(self, elder, newer, culprits):
        """The rows break a table just by these ones, which ask for what no row can give."""
        tables, rows = Tables(elder, newer), self.rows(elder, newer)
        self.assertIsNone(kept_table(elder, newer))
        self.assertIs(is_kept_table(elder, newer, rows), False)
        self.assertEqual(sorted([row for row in rows if tables.asked_by(rows, row) is None], key=repr), sorted(culprits, key=repr))

    def asks(self, elder, newer, row, needed):
        """A table has a row, and each of some others just for its sake."""
        rows = kept_table(elder, newer)
        self.assertIn(row, rows)
        for need in needed:
            self.assertIn(need, rows)
            self.assertIs(is_kept_table(elder, newer, without(rows, need)), False)
        self.assertEqual(sorted(Tables(elder, newer).asked_by(rows, row), key=repr), sorted(needed, key=repr))

    def test_wanted_rows(self):
        one, plus = Edition([PLUS], []), ("form", PLUS[0])
        tokens = ["+", ")", ""]
        self.asks(one, one, ("wanted", BOTTOM), [("wanted", BRACKET), ("wanted", plus)] + [("had", None, BOTTOM, token) for token in tokens])
        self.asks(one, one, ("wanted", plus), [("wanted", BRACKET)] + [("had", None, plus, token) for token in tokens])
        self.assertIs(is_kept_table(one, one, without(kept_table(one, one), ("wanted", BOTTOM))), False)
        # A frame may stand on another one in both, or in one of them alone: then it asks for nothing.
        looser = Edition([(PLUS[0], 4, (4, 4))], [])
        self.assertNotIn(("wanted", plus), Tables(one, looser).asked_by([], ("wanted", plus)))
        self.assertIn(("wanted", plus), Tables(looser, looser).asked_by([], ("wanted", plus)))

    def test_patterns_that_end_with_a_fixed_token(self):
        boxes, plus = Edition([PLUS, BOX], []), ("form", PLUS[0])
        rows = kept_table(boxes, boxes)
        for token in ("+", "]", ")", ""):
            self.assertIn(("had", BOX[0], BOTTOM, token), rows)
            # Its own level is too low for this frame.
            self.assertNotIn(("had", BOX[0], plus, token), rows)
        self.assertNotIn(("had", PLUS[0], plus, "+"), rows)

    def test_both_end_the_frame(self):
        one, plus = Edition([PLUS], []), ("form", PLUS[0])
        self.asks(one, one, ("had", None, plus, "+"), [("had", PLUS[0], BOTTOM, "+"), ("had", PLUS[0], BRACKET, "+")])
        self.asks(one, one, ("had", None, BOTTOM, "+"), [])
        self.asks(one, one, ("had", None, BOTTOM, ")"), [])

    def test_the_elder_faults_or_ends_while_the_newer_does_else(self):
        # The newer takes a comma where the elder faults, and goes on by "else" where the elder ends.
        self.asks(ELDER, NEWER, ("had", None, BOTTOM, "]"), [])
        elder, newer = Edition([IF, (("f", "_", "else"), 1, (3,))], []), Edition([IF, ELSE, (("f", "_", "else"), 1, (3,))], [])
        then = ("form", IF[0])
        self.assertEqual(naive_pairs.deed(elder, None, then, "else"), ("end",))
        self.assertEqual(naive_pairs.deed(newer, None, then, "else"), ("take", ELSE[0][:5]))
        lowers = [BOTTOM, BRACKET, ("form", ("if", "_")), then]
        self.asks(elder, newer, ("had", None, then, "else"), [("elder", IF[0], lower, "else") for lower in lowers])
        self.asks(elder, newer, ("elder", IF[0], then, "else"), [("elder", IF[0], lower, "else") for lower in lowers])
        self.asks(elder, newer, ("elder", IF[0], BOTTOM, "else"), [])
        # Where the frame may stand on the one that waits for the token, the elder takes it.
        low = Edition([IF, (("f", "_", "else"), 1, (2,))], [])
        high = Edition([IF, ELSE, (("f", "_", "else"), 1, (2,))], [])
        self.broken_by(low, high, [("elder", IF[0], ("form", ("f", "_")), "else")])

    def test_unlike_deeds(self):
        one, late = Edition([PLUS, TIMES], []), Edition([PLUS, (TIMES[0], 3, (3, 7))], [])
        plus = ("form", PLUS[0])
        # The elder takes "*" as a tail there, the newer ends the frame; and the one behind the other way about.
        # The newer faults by "+" behind a form of "*", which is too low for it.
        self.broken_by(one, late, [("had", None, plus, "*"), ("had", TIMES[0], BOTTOM, "+"), ("had", TIMES[0], BRACKET, "+")])
        rows = self.rows(late, one)
        self.assertIn(("elder", PLUS[0], BOTTOM, "*"), rows)
        self.broken_by(late, one, [("elder", PLUS[0], BOTTOM, "*"), ("elder", PLUS[0], BRACKET, "*")])

    def test_first_deeds(self):
        none = Edition([], [])
        # A name in the elder alone: none of the elder's tokens behind it may be right.
        self.broken_by(none, Edition([NOT], ["not"]), [("elder", None, BOTTOM, ""), ("elder", None, BRACKET, ")")])
        alone, hard = Edition([NOT], []), Edition([NOT], ["not"])
        rows = self.rows(alone, hard)
        self.assertIn(("elder", None, BOTTOM, ""), rows)
        self.broken_by(alone, hard, [("elder", value, frame, token) for value in (None, NOT[0])
                                       for frame, token in ((BOTTOM, ""), (BRACKET, ")"))])
        # A head in the elder alone.
        high = Edition([NOT, LET], [])
        low = Edition([(NOT[0], 8, (9,)), LET], [])
        self.broken_by(high, low, [("wanted", ("form", NOT[0]))])
        # One behind which all heads are too low, so that a number alone is right; and one that is a pattern alone.
        for form in ((("-", "_"), 5, (9,)), (("-",), 5, ())):
            steep, flat = Edition([(("+", "_"), 1, (5,)), form], []), Edition([(("+", "_"), 1, (5,)), (form[0], 3) + form[2:]], [])
            self.broken_by(steep, flat, [("wanted", ("form", ("+", "_")))])
            self.assertIs(kept(steep, flat), False)
        # Behind a head of the elder alone the token is the fault in any case.
        stray = [(("a", "_", "b"), 5, (0,))]
        self.assertIsNotNone(kept_table(Edition(stray, ["a"]), Edition(stray + [(("d", "_"), 5, (0,))], ["a"])))
        self.assertIs(kept(Edition([(("a", "b"), 5, ())], ["a"]), Edition([(("a", "b"), 5, ())], [])), True)
        self.assertIsNotNone(kept_table(Edition([(("a", "b"), 5, ())], ["a"]), Edition([(("a", "b"), 5, ())], [])))
        self.assertIsNotNone(kept_table(Edition([(("a", "_"), 5, (0,))], ["a"]), Edition([(("a", "_"), 5, (0,))], [])))
        # There a word that is no value's beginning is a name.
        both = [(("a", "_"), 5, (0,)), (("f", "_", "b", "_"), 5, (0, 0))]
        self.assertEqual(naive_pairs.first_deed(Edition(both, []), BOTTOM, "a", "b"), ("name",))
        self.assertIsNone(kept_table(Edition(both, ["a"]), Edition(both, [])))

    def test_words_behind_a_soft_word(self):
        # Where a soft word's frame has just been opened, a word that begins no value never comes: "w" is none of
        # the names there that the newer reads as a head before "in".
        forms = [(("a", "_", "in"), 5, (0,)), (("f", "w"), 5, ())]
        elder, newer = Edition(forms, []), Edition(forms + [(("w", "in"), 5, ())], [])
        rows = kept_table(elder, newer)
        self.assertIs(Tables(elder, newer).is_table(rows), True)
        self.assertIn(("elder", None, BOTTOM, "in"), rows)
        self.assertNotIn(("elder", None, ("form", ("a", "_")), "in"), rows)
        self.assertIs(kept(elder, newer), True)
        # It comes behind a later token of the form, and behind a hard word.
        later = [(("a", "_", "by", "_", "in"), 5, (0, 0)), (("f", "w"), 5, ())]
        self.assertIsNone(kept_table(Edition(later, []), Edition(later + [(("w", "in"), 5, ())], [])))
        self.assertIs(kept(Edition(later, []), Edition(later + [(("w", "in"), 5, ())], [])), False)
        self.assertIsNone(kept_table(Edition(forms, ["a"]), Edition(forms + [(("w", "in"), 5, ())], ["a"])))
        self.assertIs(kept(Edition(forms, ["a"]), Edition(forms + [(("w", "in"), 5, ())], ["a"])), False)
