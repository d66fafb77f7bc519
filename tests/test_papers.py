"""Points 120 to 123: texts of editions, trees, changes and tables."""

import random
import unittest

from keptreadings.editions import Edition, numbers
from keptreadings.errors import InvalidChange, InvalidEdition, InvalidTable, InvalidText, InvalidTree
from keptreadings.kept import kept_table
from keptreadings.papers import change_text, edition_text, read_change, read_edition, read_table, read_tree, table_text, tree_text
from tests import judges
from tests.pairs import random_pairs, some_change
from tests.samples import LET, NOT, PLUS, TIMES, objects, random_editions, snapshot
from tests.test_marks import random_trees

PLUS_P, TIMES_P, NOT_P, LET_P = PLUS[0], TIMES[0], NOT[0], LET[0]
A, B, SEVEN = ("name", "a"), ("name", "b"), ("number", "7")
SIGNS = ["+", "_", " ", "\n", "a", "0", "9", "'", "-", "x", "hard", "end", "(", "\t", "\r", "  "]


def misspelt(source, text, many):
    """Texts that differ from one by one sign more, less or other, or by two lines exchanged."""
    found = []
    for _ in range(many):
        at = source.randint(0, len(text))
        found.append(text[:at] + source.choice(SIGNS) + text[at:])
        found.append(text[:at] + text[at + 1:])
        found.append(text[:at] + source.choice(SIGNS) + text[at + 1:])
    lines = text.split("\n")
    at = source.randint(0, len(lines) - 1)
    found += ["\n".join(lines[:at] + lines[at + 1:]), "\n".join(lines[:at] + lines[at:at + 1] + lines[at:]), "\n".join(lines[::-1]), text + "\n", "\n" + text, text + " ", " " + text]
    return found


class PapersTest(unittest.TestCase):

    def is_held(self, write, read, value, source, many):
        """Each thing is read back from its text, and what is read has this very text."""
        text = write(value)
        self.assertIsInstance(text, str)
        self.assertEqual(snapshot(read(text)), snapshot(value), text)
        for other in misspelt(source, text, many):
            try:
                found = read(other)
            except InvalidText as error:
                self.assertIs(error.value, other)
            else:
                self.assertEqual(write(found), other)

    def refused(self, read, texts):
        for text in texts:
            with self.assertRaises(InvalidText) as caught:
                read(text)
            self.assertIs(caught.exception.value, text, text)
        for thing in objects():
            if not isinstance(thing, str):
                with self.assertRaises(InvalidText) as caught:
                    read(thing)
                self.assertIs(caught.exception.value, thing)


class EditionTest(PapersTest):

    def test_by_hand(self):
        for forms, hard, text in (
            ([], [], "hard"), ([PLUS], [], "4 _4 + _5\nhard"), ([NOT, LET, PLUS], ["let"], "4 _4 + _5\n3 let _0 in _0\n8 not _8\nhard let"),
            ([(("z",), 9, ()), (("a",), 0, ())], ["z", "a"], "0 a\n9 z\nhard a z"), ([(("[", "_", ",", "_", "]", ";", "_"), 1, (2, 3, 4))], [], "1 [ _2 , _3 ] ; _4\nhard"),
            ([(("hard", "_"), 0, (9,))], ["hard"], "0 hard _9\nhard hard"),
        ):
            self.assertEqual(edition_text(Edition(forms, hard)), text)
            self.assertEqual(read_edition(text), Edition(forms, hard))

    def test_each_is_read_back(self):
        source = random.Random(200)
        for edition in random_editions(201, 60, 4, 9):
            self.is_held(edition_text, read_edition, edition, source, 12)

    def test_texts_that_no_edition_has(self):
        self.refused(read_edition, [
            "", "hard ", " hard", "hard\n", "\nhard", "Hard", "hard  a", "4 _4 + _5", "4 _4 + _5\n\nhard", "4 _4 + _5\nhard let", "4 _4  + _5\nhard", "4 _4 + _5 \nhard", "4 _4 + _10\nhard",
            "10 _4 + _5\nhard", "04 _4 + _5\nhard", "4 _ + _5\nhard", "4 _4 + _\nhard", "_4 + _5\nhard", "4 _4 _5\nhard", "4 _4 + _5\n4 _4 + _5\nhard", "8 not _8\n4 _4 + _5\nhard",
            "1 a\nhard", "1 a\nhard a a", "1 a\n1 b\nhard b a", "4 _4 + _5\n6 _6 * _7\nhard", "4 _4 + _5\r\nhard", "4 _4 + _5\nhard\nhard", "4 _4 + _5\nhard +", "4 + (\nhard", "4 7\nhard",
            "4 _a + _5\nhard", "a _4 + _5\nhard", "4\nhard", "4 \nhard", "4 _4 + _5\n4 _3 + _5 a\nhard", "4 abcdefghi\nhard", "4 _4 + _5\tb\nhard", "4 _4 + __5\nhard", "-1 _4 + _5\nhard",
        ])

    def test_errors(self):
        for thing in objects():
            if not isinstance(thing, Edition):
                with self.assertRaises(InvalidEdition) as caught:
                    edition_text(thing)
                self.assertIs(caught.exception.value, thing)

    def test_an_edition_without_hard_words_has_its_line(self):
        self.assertEqual(edition_text(Edition([NOT], [])).split("\n")[-1], "hard")
        self.assertEqual(read_edition("8 not _8\nhard not").hard(), ["not"])


class TreeTest(PapersTest):

    def test_by_hand(self):
        for tree, text in (
            (A, "'a"), (SEVEN, "7"), ((("z",), []), "z"), ((("+",), []), "+"), ((PLUS_P, [A, SEVEN]), "_ + _\n  'a\n  7"),
            ((PLUS_P, [(NOT_P, [A]), (LET_P, [B, (("nil", "nil"), [])])]), "_ + _\n  not _\n    'a\n  let _ in _\n    'b\n    nil nil"),
            ((("_", "!"), [(("_", "!"), [("number", "0")])]), "_ !\n  _ !\n    0"),
        ):
            self.assertEqual(tree_text(tree), text)
            self.assertEqual(snapshot(read_tree(text)), snapshot(tree))

    def test_each_is_read_back(self):
        source = random.Random(202)
        for _, tree in random_trees(203, 40, 5):
            self.is_held(tree_text, read_tree, tree, source, 12)

    def test_forty_deep(self):
        deep, wide = A, A
        for _ in range(39):
            deep = (NOT_P, [deep])
        for _ in range(19):
            wide = (PLUS_P, [wide, SEVEN])
        for tree in (deep, wide):
            self.assertEqual(snapshot(read_tree(tree_text(tree))), snapshot(tree))
            self.refused(read_tree, [tree_text(tree) + "\n'a", tree_text(tree)[4:], tree_text(tree)[:-1]])

    def test_texts_that_no_tree_has(self):
        self.refused(read_tree, [
            "", " 'a", "'a ", "'a\n", "\n'a", "'", "''a", "'A", "'a1", "07", "123456789", "'abcdefghi", "_", "_ _", "+ ", "+  +", "_ + _", "_ + _\n  'a", "_ + _\n  'a\n 'a", "_ + _\n  'a\n   'a",
            "_ + _\n'a\n'a", "_ + _\n  'a\n  'a\n  'a", "_ + _\n  'a\n    'a", "_ + _\n    'a\n    'a", "_ + _\n  'a\n\n  'a", "'a\n'a", "not _\n  not _\n  'a", "_ + _\n  _ !\n  'a\n  'b",
            "_ + _\r\n  'a\n  'a", "_ ( _\n  'a\n  'a", "a b c d e f g h", "_ + _\n\t'a\n\t'a", "a 7", "_ a _ b _ c _\n  7\n  7\n  7\n  7",
        ])

    def test_errors(self):
        for thing in objects() + [(PLUS_P, (A, B)), [PLUS_P, [A, B]], (PLUS_P, [A]), ("name", "'a")]:
            if not judges.tree(thing):
                with self.assertRaises(InvalidTree) as caught:
                    tree_text(thing)
                self.assertIs(caught.exception.value, thing)

    def test_trees_of_no_edition(self):
        odd = (("_", "+", "_"), [(("+", "+", "+", "+", "+", "+", "+"), []), ("name", "name")])
        self.assertEqual(tree_text(odd), "_ + _\n  + + + + + + +\n  'name")
        self.assertEqual(read_tree("name"), (("name",), []))


class ChangeTest(PapersTest):

    def test_by_hand(self):
        for change, text in (
            (("put", PLUS), "put 4 _4 + _5"), (("put", (("z",), 0, ())), "put 0 z"), (("out", PLUS_P), "out _ + _"), (("out", ("out",)), "out out"), (("level", ("head", "not"), 3), "level head not 3"),
            (("level", ("tail", "+"), 0), "level tail + 0"), (("level", ("left", "by"), 9), "level left by 9"), (("level", ("hole", ("_", "+", "_")), 1), "level hole _ + _ 1"),
            (("level", ("hole", ("hole", "_")), 1), "level hole hole _ 1"), (("hard", "soft"), "hard soft"), (("soft", "hard"), "soft hard"),
        ):
            self.assertEqual(change_text(change), text)
            self.assertEqual(snapshot(read_change(text)), snapshot(change))

    def test_each_is_read_back(self):
        source = random.Random(204)
        for edition in random_editions(205, 50, 4, 9):
            for change in some_change(source, edition, ["a", "b", "+", "-"], 9) + [("level", key, 4) for key in numbers(edition)][:4]:
                self.is_held(change_text, read_change, change, source, 10)

    def test_texts_that_no_change_has(self):
        self.refused(read_change, [
            "", "put", "put ", "put 4", "put _4 + _5", "put 4 _4 + _5 ", " put 4 _4 + _5", "put  4 _4 + _5", "put 4 _4 + _5\n", "put 4 _ + _", "out", "out ", "out _", "out _ + _ ", "out 4 _4 + _5", "out (",
            "level", "level head", "level head not", "level head not 10", "level head not 03", "level head not  3", "level head not 3 ", "level head not x", "level head not a 3", "level head _ 3", "level hole _ 3",
            "level hole not 3", "level hole not _ in 3", "level hole _ + _ _ 3", "level middle + 3", "level hole 3", "level tail 7 3", "hard", "hard ", "hard +", "hard a b", "soft A", "soft 'a", "softer a", "Hard a",
            "soft a\nsoft b", "hard abcdefghi", "level hole _ + _", "level hole _ + _ -1",
        ])

    def test_errors(self):
        for thing in objects() + [("level", ("tail", "+"), 10), ("out", ("_",)), ("put", PLUS_P), ("hard", "+"), ["hard", "a"], ("level", ("hole", ("_",)), 1)]:
            if not judges.change(thing):
                with self.assertRaises(InvalidChange) as caught:
                    change_text(thing)
                self.assertIs(caught.exception.value, thing)


class TableTest(PapersTest):

    ROWS = [
        (("wanted", ("bottom",)), "wanted  bottom"), (("wanted", ("bracket",)), "wanted  bracket"), (("wanted", ("form", ("if", "_"))), "wanted  form if _"),
        (("had", None, ("bottom",), ""), "had  --  bottom  --"), (("had", ("_", "+", "_"), ("form", ("let", "_", "in", "_")), ")"), "had  _ + _  form let _ in _  )"),
        (("elder", ("-", "-"), ("bracket",), "-"), "elder  - -  bracket  -"), (("elder", ("form",), ("form", ("form", "_")), "form"), "elder  form  form form _  form"),
        (("had", ("bottom",), ("bottom",), "bottom"), "had  bottom  bottom  bottom"), (("had", ("wanted",), ("bracket",), "+"), "had  wanted  bracket  +"),
        (("had", ("-",), ("form", ("-", "_")), "-"), "had  -  form - _  -"),
    ]

    def test_by_hand(self):
        self.assertEqual([table_text([]), read_table("")], ["", []])
        for row, text in self.ROWS:
            self.assertEqual(table_text([row]), text)
            self.assertEqual(snapshot(read_table(text)), snapshot([row]))
        table = [row for row, _ in self.ROWS]
        text = "\n".join([text for _, text in self.ROWS])
        self.assertEqual(table_text(table), text)
        self.assertEqual(read_table(text), table)
        self.assertEqual(table_text(table[::-1] + table), "\n".join(text.split("\n")[::-1]) + "\n" + text)

    def test_each_is_read_back(self):
        source = random.Random(206)
        many = 0
        for elder, newer in random_pairs(207, 60, 3, 4):
            table = kept_table(elder, newer)
            if table is not None:
                source.shuffle(table)
                self.is_held(table_text, read_table, table[:30] + table[:1], source, 6)
                self.assertEqual(read_table(table_text(table)), table)
                many += 1
        self.assertGreater(many, 15)

    def test_rows_twice(self):
        row, text = self.ROWS[4]
        self.assertEqual(table_text([row, row]), text + "\n" + text)
        self.assertEqual(read_table(text + "\n" + text), [row, row])

    def test_what_is_no_table(self):
        for wrong in (
            (("wanted", ("bottom",)),), ("wanted", ("bottom",)), [["wanted", ("bottom",)]], [("wanted", ["bottom"])], [("wanted", ("top",))], [("wanted", ("form", ("_",)))], [("wanted", ("form", ("a",)))],
            [("wanted", ("form", ("a", "_", "b")))], [("wanted", ("form", ["a", "_"]))], [("wanted", ("form",))], [("wanted", ("form", ("a", "_"), None))], [("wanted", ("bottom",), None)], [("wanted",)],
            [("had", None, ("bottom",))], [("had", (), ("bottom",), "")], [("had", ("_",), ("bottom",), "")], [("had", None, ("bottom",), "(")], [("had", None, ("bottom",), "7")], [("had", None, ("bottom",), "'a")],
            [("had", None, ("bottom",), None)], [("had", "a", ("bottom",), "a")], [("newer", None, ("bottom",), "")], [("wanted", None, ("bottom",), "")], [("had", ["a"], ("bottom",), "")], [None], [()], None,
            [("had", None, ("bottom",), "--")], [("had", False, ("bottom",), "")], [("had", None, "bottom", "")],
        ):
            with self.assertRaises(InvalidTable) as caught:
                table_text(wrong)
            self.assertIs(caught.exception.value, wrong)
        for thing in objects():
            if not (isinstance(thing, list) and not thing):
                with self.assertRaises(InvalidTable):
                    table_text(thing)

    def test_texts_that_no_table_has(self):
        self.refused(read_table, [
            "wanted bottom", "wanted  bottom ", " wanted  bottom", "wanted   bottom", "wanted  bottom\n", "\nwanted  bottom", "wanted  top", "wanted", "wanted  ", "wanted  form", "wanted  form a", "wanted  form _",
            "wanted  form  a _", "wanted  bottom  --", "had  --  bottom", "had  --  bottom  ", "had  --  bottom  --  --", "had  _ + _  bottom  (", "had  _ + _  bottom  7", "had  _  bottom  +", "had  ( +  bottom  +",
            "had -- bottom --", "newer  --  bottom  --", "had  --  bracket bracket  --", "had  - - -  bottom  - -", "wanted  bottom\n\nwanted  bottom", "wanted  bottom\r\nwanted  bracket", "\n", " ", "had  --  --  --",
            "had    bottom  --", "wanted  bottom bottom",
        ])
