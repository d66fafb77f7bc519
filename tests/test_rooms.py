"""Points 60 to 64: rows that are used, rooms of levels, editions that keep all texts."""

import random
import unittest
from itertools import product

from keptreadings.alike import are_alike
from keptreadings.editions import Edition, changed, changed_by, numbers
from keptreadings.errors import InvalidEdition, InvalidKey, InvalidRow
from keptreadings.kept import is_kept_text, kept
from keptreadings.reading import read
from keptreadings.rooms import are_room_ends, broken_rows, greatest_keeping, is_looser, is_used_text, least_keeping, loosest, room, room_ends
from keptreadings.rooms import rooms, used_rows, used_text
from keptreadings.shortest import parting_size
from keptreadings.tokens import cut
from tests import naive_pairs
from tests.naive_pairs import rows_of_text, says
from tests.pairs import random_pairs, stock_pairs, told
from tests.samples import LET, NOT, PLUS, TIMES, objects, random_editions
from tests.test_alike import small_stocks, with_levels

SUMS = Edition([PLUS, TIMES], [])
ONE = Edition([(PLUS[0], 5, (5, 6))], [])
BOX = (("[", "_", "]"), 1, (0,))


class UsedRowsTest(unittest.TestCase):

    def test_rows(self):
        plus, times = PLUS[0], TIMES[0]
        self.assertEqual(used_rows(SUMS), [("left", times, "*"), ("left", times, "+"), ("left", plus, "+"), ("off", times, ("tail", "*")),
                                           ("off", times, ("tail", "+")), ("off", plus, ("tail", "+")), ("on", plus, ("tail", "*"))])
        self.assertEqual(used_rows(Edition([], [])), [])
        heads = used_rows(Edition([NOT, LET], []))
        self.assertEqual(heads, [("on", place, ("head", word)) for place in (LET[0][:2], LET[0]) for word in ("let", "not")] + [("on", NOT[0], ("head", "not"))])
        self.assertEqual(used_rows(Edition([BOX], [])), [("on", ("[", "_"), ("head", "["))])

    def test_a_frame_that_ends_only_where_another_one_lets_the_token_by(self):
        # Behind "f _" alone the left level of "!" is too high; behind "g _" it is not.
        forms = [(("f", "_"), 1, (1,)), (("g", "_"), 2, (1,)), (("_", "!"), 0, (2,))]
        self.assertIn(("off", ("f", "_"), ("tail", "!")), used_rows(Edition(forms, [])))
        self.assertEqual(used_text(Edition(forms, []), ("off", ("f", "_"), ("tail", "!")))[:2], ["g", "f"])
        self.assertNotIn(("off", ("f", "_"), ("tail", "!")), used_rows(Edition(forms[::2], [])))
        higher = [forms[0], (("g", "_"), 2, (2,)), forms[2]]
        self.assertNotIn(("off", ("f", "_"), ("tail", "!")), used_rows(Edition(higher, [])))

    def test_held_against_all_texts(self):
        seen = set()
        for edition in random_editions(65, 90, 3, 3):
            rows, sizes = used_rows(edition), naive_pairs.sizes_of_rows(edition, 5, 800)
            self.assertEqual(rows, sorted(rows))
            self.assertLessEqual(set(sizes), set(rows), edition.forms())
            for row in rows:
                text = used_text(edition, row)
                self.assertEqual(read(edition, text)[0], "read")
                self.assertIn(row, rows_of_text(edition, text), (edition.forms(), text))
                self.assertIs(is_used_text(edition, row, text), True)
                if row in sizes:
                    self.assertLessEqual(len(text), sizes[row], (edition.forms(), row))
                if len(text) <= 3:
                    self.assertEqual(len(text), sizes[row], (edition.forms(), row))
                self.assertIs(says(edition, row), True)
                seen.add((row[0], row[2][0] if row[0] != "left" else ""))
        self.assertEqual(seen, {("on", "head"), ("on", "tail"), ("off", "tail"), ("left", "")})

    def test_sizes_of_all_small_ones(self):
        for edition in small_stocks(66, 40, 5):
            sizes = naive_pairs.sizes_of_rows(edition, 7, 4000)
            for row in used_rows(edition):
                if row in sizes and sizes[row] <= 5:
                    self.assertEqual(len(used_text(edition, row)), sizes[row])

    def test_is_used_text(self):
        row = ("off", PLUS[0], ("tail", "+"))
        for line in ("x + y + z", "1 + 'a + b", "x + x + x"):
            self.assertIs(is_used_text(SUMS, row, cut(line)), True, line)
        for line in ("x + y", "x + y * z", "x + y + z + w", "( x + y + z )", "( x + y ) + z", "x + ( y + z )", "x * y + z", "x + + y z", "", "x + y + +"):
            self.assertIs(is_used_text(SUMS, row, cut(line)), False, line)
        for line, wanted in (("x * y + z", True), ("x + y + z", False), ("( x * y ) + z", False)):
            self.assertIs(is_used_text(SUMS, ("left", TIMES[0], "+"), cut(line)), wanted, line)
        heads = Edition([NOT, LET], [])
        on = ("on", NOT[0], ("head", "not"))
        for line, wanted in (("not not x", True), ("not not not", True), ("not x", False), ("not ( not x )", False), ("let x in not x", False)):
            self.assertIs(is_used_text(heads, on, cut(line)), wanted, line)
        self.assertIs(is_used_text(heads, ("on", LET[0], ("head", "not")), cut("let a in not not")), True)
        self.assertIs(is_used_text(heads, ("on", LET[0], ("head", "not")), cut("let a in not +")), False)
        self.assertIs(is_used_text(heads, ("on", LET[0], ("head", "not")), cut("let a in not b")), True)
        post = Edition([NOT, (("_", "!"), 9, (0,))], [])
        for line, wanted in (("not not x", True), ("not not not", True), ("not not !", False), ("not x !", False)):
            self.assertIs(is_used_text(post, on, cut(line)), wanted, line)
        for thing in objects() + [tuple(cut("x + y + z"))]:
            self.assertIs(is_used_text(SUMS, row, thing), False)

    def test_rows_that_are_none(self):
        wrong = [("on", PLUS[0], ("tail", "+")), ("off", PLUS[0], ("tail", "*")), ("left", PLUS[0], "*"), ("on", PLUS[0], "*"), ["left", PLUS[0], "+"],
                 ("left", list(PLUS[0]), "+"), ("left", PLUS[0], "+", 1), ("on", ("_",), ("tail", "*")), ("on", PLUS[0], ["tail", "*"]),
                 ("on", ("bottom",), ("tail", "*")), (), None, ("left", PLUS[0]), ("left", None, "+"), ("wanted", ("bottom",))]
        for row in wrong + objects():
            for ask in (used_text, lambda edition, other: is_used_text(edition, other, ["x"])):
                with self.assertRaises(InvalidRow) as caught:
                    ask(SUMS, row)
                self.assertIs(caught.exception.value, row)
                with self.assertRaises(InvalidEdition):
                    ask([SUMS], row)


class RoomTest(unittest.TestCase):

    def test_each_kind_of_key(self):
        edition = Edition([PLUS, TIMES, LET, (("if", "_", "then", "_", "else", "_"), 2, (0, 3, 2))], ["let"])
        told_rooms = rooms(edition)
        self.assertEqual(list(told_rooms), sorted(numbers(edition)))
        for key in told_rooms:
            self.assertEqual(room(edition, key), told_rooms[key])
        self.assertEqual({key[0] for key in told_rooms}, {"head", "tail", "left", "hole"})
        self.assertEqual(room(edition, ("left", "*")), (0, 6))
        self.assertEqual(room(edition, ("head", "let"))[1], 9)
        self.assertEqual(room(edition, ("hole", ("let", "_")))[0], 0)

    def test_examples(self):
        both = Edition([(PLUS[0], 5, (5, 6)), (TIMES[0], 7, (7, 8))], [])
        rows = {("hole", PLUS[0]): (6, 7), ("tail", "+"): (5, 5), ("left", "*"): (0, 7), ("hole", TIMES[0]): (8, 9), ("left", "+"): (0, 5), ("tail", "*"): (7, 7)}
        self.assertEqual({key: room(both, key) for key in rows}, rows)
        self.assertEqual(rooms(Edition([], [])), {})
        self.assertEqual(rooms(Edition([(("nil",), 4, ())], ["nil"])), {("head", "nil"): (0, 9)})

    def test_held_against_all_levels(self):
        for edition in random_editions(67, 50, 4, 4):
            told_rooms = rooms(edition)
            for key, (least, greatest) in told_rooms.items():
                for level in range(10):
                    newer = changed(edition, ("level", key, level))
                    self.assertIs(kept(edition, newer), least <= level <= greatest, (edition.forms(), key, level))

    def test_held_against_all_texts(self):
        for edition in random_editions(68, 25, 2, 2):
            texts = naive_pairs.texts_read(edition, naive_pairs.naive.tokens_of(edition), 5, 300)
            for key, (least, greatest) in rooms(edition).items():
                for level in range(least, greatest + 1):
                    newer = changed(edition, ("level", key, level))
                    self.assertTrue(all(is_kept_text(edition, newer, text) for text in texts))

    def test_keys_that_are_none(self):
        wrong = [("head", "+"), ("tail", "not"), ("hole", ("_", "+")), ("hole", ("_",)), ("left", ("_", "+", "_")), ["tail", "+"], ("tail", ["+"]),
                 ("hole", list(PLUS[0])), ("tail",), ("tail", "+", 1), "tail", None, (), ("tail", "/")]
        for key in wrong + objects():
            for ask in (room, room_ends, lambda edition, other: are_room_ends(edition, other, (None, None))):
                with self.assertRaises(InvalidKey) as caught:
                    ask(SUMS, key)
                self.assertIs(caught.exception.value, key)
                with self.assertRaises(InvalidEdition):
                    ask(None, key)


class RoomEndsTest(unittest.TestCase):

    def test_ends(self):
        both = Edition([(PLUS[0], 5, (5, 6)), (TIMES[0], 7, (7, 8))], [])
        self.assertEqual(room_ends(both, ("left", "*"))[0], None)
        self.assertEqual(len(room_ends(both, ("left", "*"))[1]), 5)
        self.assertEqual(room_ends(both, ("hole", TIMES[0]))[1], None)
        self.assertEqual([len(text) for text in room_ends(both, ("tail", "+"))], [5, 5])
        self.assertEqual(room_ends(Edition([BOX], []), ("head", "[")), (None, None))
        self.assertIs(are_room_ends(Edition([BOX], []), ("head", "["), (None, None)), True)

    def test_parts_that_are_wrong(self):
        both = Edition([(PLUS[0], 5, (5, 6)), (TIMES[0], 7, (7, 8))], [])
        key = ("hole", PLUS[0])
        low, high = cut("x + x + x"), cut("y + x * x")
        self.assertIs(are_room_ends(both, key, (low, high)), True)
        for wrong in ((high, low), (low, low), (None, high), (low, None), (low, high, None), (low,), [low, high], (), None, (tuple(low), high), (low, tuple(high)),
                      (low + ["+", "x"], high), (low, ["("] + high + [")"]), (low[:3], high), ([], high), (low, cut("x + y")), ((low, high),)):
            self.assertIs(are_room_ends(both, key, wrong), False, wrong)
        for thing in objects():
            self.assertIs(are_room_ends(both, key, thing), False)
            self.assertIs(are_room_ends(both, key, (thing, high)), False)
            self.assertIs(are_room_ends(both, key, (low, thing)), False)
            self.assertIs(are_room_ends(both, ("left", "*"), (thing, high)), False if thing is not None else
                          are_room_ends(both, ("left", "*"), (None, high)))

    def test_many(self):
        for edition in random_editions(69, 40, 4, 4):
            for key, (least, greatest) in rooms(edition).items():
                ends = room_ends(edition, key)
                self.assertIs(are_room_ends(edition, key, ends), True)
                for text, level in zip(ends, (least - 1, greatest + 1)):
                    if not 0 <= level <= 9:
                        self.assertIsNone(text)
                        continue
                    newer = changed(edition, ("level", key, level))
                    self.assertEqual(len(text), parting_size(edition, newer))
                    self.assertIs(naive_pairs.broken(edition, newer, text), True)


class LooserTest(unittest.TestCase):

    FORMS = [PLUS, (NOT[0], 4, (5,)), LET, (("if", "_", "then", "_"), 2, (2, 3)), (("if", "_", "then", "_", "else", "_"), 2, (2, 3, 2))]
    HERE = Edition(FORMS, ["let"])

    def test_what_may_change(self):
        rows = [
            (("left", "+"), 3, True), (("left", "+"), 0, True), (("left", "+"), 5, False), (("head", "not"), 9, True), (("head", "not"), 3, False),
            (("head", "let"), 4, True), (("hole", ("if", "_")), 1, True), (("hole", ("if", "_")), 3, False), (("hole", ("let", "_")), 1, False),
            (("hole", self.FORMS[3][0]), 2, False), (("hole", self.FORMS[3][0]), 4, False), (("hole", NOT[0]), 4, False), (("hole", PLUS[0]), 4, False),
            (("tail", "+"), 5, False), (("tail", "+"), 3, False), (("hole", self.FORMS[4][0]), 1, False),
        ]
        for key, level, wanted in rows:
            self.assertIs(is_looser(self.HERE, changed(self.HERE, ("level", key, level))), wanted, (key, level))
        self.assertIs(is_looser(self.HERE, self.HERE), True)
        both = changed_by(self.HERE, [("level", ("left", "+"), 0), ("level", ("head", "not"), 9)])
        self.assertIs(is_looser(self.HERE, both), True)
        self.assertIs(is_looser(both, self.HERE), False)
        self.assertIs(is_looser(self.HERE, changed(both, ("level", ("tail", "+"), 5))), False)

    def test_another_stock(self):
        for other in (Edition(self.FORMS, []), Edition(self.FORMS[1:], ["let"]), Edition([], [])):
            self.assertIs(is_looser(self.HERE, other), False)
            self.assertIs(is_looser(other, self.HERE), False)

    def test_all_texts_are_kept(self):
        source = random.Random(70)
        for edition in random_editions(70, 120, 4, 5):
            top = loosest(edition)
            levels = {key: source.randint(*sorted([level, numbers(top)[key]])) for key, level in numbers(edition).items()}
            newer = with_levels(edition, levels)
            self.assertIs(is_looser(edition, newer), True)
            self.assertIs(is_looser(newer, top), True)
            self.assertIs(kept(edition, newer), True, told(edition, newer))
            self.assertEqual(loosest(newer), top)
            self.assertIs(is_looser(newer, edition), newer == edition)

    def test_loosest(self):
        top = numbers(loosest(self.HERE))
        self.assertEqual(top, {**numbers(self.HERE), ("left", "+"): 0, ("head", "not"): 9, ("head", "let"): 9, ("head", "if"): 9,
                               ("hole", ("if", "_")): 0, ("hole", ("let", "_")): 0})
        self.assertEqual(loosest(self.HERE).hard(), ["let"])
        self.assertEqual(loosest(loosest(self.HERE)), loosest(self.HERE))
        for key in top:
            for level in range(10):
                if level != top[key]:
                    self.assertIs(is_looser(loosest(self.HERE), changed(loosest(self.HERE), ("level", key, level))), False)


class KeepingTest(unittest.TestCase):

    def test_examples(self):
        self.assertEqual(least_keeping(ONE).forms(), [(PLUS[0], 0, (0, 1))])
        self.assertEqual(greatest_keeping(ONE).forms(), [(PLUS[0], 8, (8, 9))])
        self.assertEqual(least_keeping(Edition([LET], ["let"])), Edition([(LET[0], 0, (0, 0))], ["let"]))
        self.assertEqual(greatest_keeping(Edition([LET], ["let"])), Edition([(LET[0], 9, (9, 9))], ["let"]))
        self.assertEqual(least_keeping(Edition([], [])), Edition([], []))

    def test_all_texts_are_kept(self):
        for edition in random_editions(71, 150, 5, 6):
            for newer in (least_keeping(edition), greatest_keeping(edition)):
                self.assertIs(kept(edition, newer), True, told(edition, newer))
            low, high = numbers(least_keeping(edition)), numbers(greatest_keeping(edition))
            for key, (least, greatest) in rooms(edition).items():
                self.assertTrue(low[key] <= least <= greatest <= high[key])

    def test_held_against_all_levels(self):
        source = random.Random(72)
        for edition in small_stocks(72, 14, 3):
            keys = list(numbers(edition))
            keeping = []
            for levels in product(range(10), repeat=len(keys)):
                other = with_levels(edition, dict(zip(keys, levels)))
                if not [row for row in used_rows(edition) if not says(other, row)]:
                    keeping.append(levels)
                    if source.random() < 0.05:
                        self.assertIs(kept(edition, other), True)
                elif source.random() < 0.05:
                    self.assertIs(kept(edition, other), False)
            self.assertEqual(list(numbers(least_keeping(edition)).values()), [min(column) for column in zip(*keeping)])
            self.assertEqual(list(numbers(greatest_keeping(edition)).values()), [max(column) for column in zip(*keeping)])


class BrokenRowsTest(unittest.TestCase):

    def test_rows(self):
        self.assertEqual(broken_rows(ONE, Edition([(PLUS[0], 5, (6, 6))], [])), [("left", PLUS[0], "+")])
        self.assertEqual(broken_rows(ONE, Edition([(PLUS[0], 6, (7, 6))], [])), [("left", PLUS[0], "+"), ("off", PLUS[0], ("tail", "+"))])
        self.assertEqual(broken_rows(ONE, ONE), [])
        self.assertEqual(broken_rows(SUMS, Edition([PLUS, (TIMES[0], 3, (3, 5))], [])), [("left", TIMES[0], "+"), ("on", PLUS[0], ("tail", "*"))])

    def test_another_stock(self):
        for other in (ONE, Edition([], []), Edition([PLUS, TIMES, NOT], [])):
            with self.assertRaises(InvalidEdition) as caught:
                broken_rows(SUMS, other)
            self.assertIs(caught.exception.value, other)
        with self.assertRaises(InvalidEdition) as caught:
            broken_rows(Edition([NOT], []), Edition([NOT], ["not"]))
        for one, other in ((None, None), (None, SUMS), (SUMS, None)):
            with self.assertRaises(InvalidEdition) as caught:
                broken_rows(one, other)
            self.assertIsNone(caught.exception.value)

    def test_empty_just_if_all_texts_are_kept(self):
        seen = set()
        for elder, newer in stock_pairs(73, 300, 4, 4):
            rows = broken_rows(elder, newer)
            self.assertIs(rows == [], kept(elder, newer), told(elder, newer))
            self.assertEqual(rows, [row for row in used_rows(elder) if not says(newer, row)])
            for row in rows[:2]:
                self.assertIs(is_kept_text(elder, newer, used_text(elder, row)), False)
            if are_alike(elder, newer):
                self.assertEqual(used_rows(elder), used_rows(newer))
            seen.add(rows == [])
        self.assertEqual(seen, {True, False})

    def test_editions_of_random_stocks(self):
        for one, other in random_pairs(74, 60, 3, 3):
            same = [form[0] for form in one.forms()] == [form[0] for form in other.forms()] and one.hard() == other.hard()
            try:
                broken_rows(one, other)
                self.assertIs(same, True)
            except InvalidEdition as error:
                self.assertIs(same, False)
                self.assertIs(error.value, other)
