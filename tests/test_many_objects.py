"""Points 50, 51, 60 and 61 where many objects are asked about: the answers stay what they are, and come soon."""

import time
import unittest

from keptreadings.editions import Edition, changed, numbers
from keptreadings.errors import InvalidEdition, InvalidKey, InvalidRow
from keptreadings.rooms import are_room_ends, is_used_text, room, room_ends, rooms, used_rows, used_text
from keptreadings.shortest import is_parting_text, is_unlike_text, parting_size, parting_text, unlike_text
from tests import naive_pairs
from tests.pairs import random_pairs
from tests.samples import objects, random_editions, snapshot

FORMS = [
    (("_", "+", "_"), 4, (4, 5)), (("_", "*", "_"), 6, (6, 7)), (("if", "_", "then", "_"), 2, (0, 3)), (("if", "_", "then", "_", "else", "_"), 2, (0, 3, 2)), (("let", "_", "in", "_"), 3, (1, 2)),
    (("_", "?", "_", ":", "_"), 3, (4, 2, 3)), (("f", "_"), 9, (8,)), (("[", "_", ",", "_", "]"), 9, (0, 1)),
]
TIMES = ("tail", "*")


def elder():
    return Edition(FORMS, [])


def newer():
    return Edition([FORMS[0], (("_", "*", "_"), 3, (6, 7))] + FORMS[2:], [])


def seconds(calls):
    begin = time.process_time()
    calls()
    return time.process_time() - begin


class PairsTest(unittest.TestCase):

    def test_the_answers(self):
        one, other = elder(), newer()
        for _ in range(3):
            for value, wanted in ((7, False), (None, False), (["x"], False), (["x", "*", "y", "+", "z"], True), (["x", "*", "y", "+", "1"], True), (["x", "*", "(", "y", "+", "z", ")"], False),
                                  (["x", "*", "y", "+", "z", "+", "z"], False), (["x", "*", "y", "+"], False), (("x", "*", "y", "+", "z"), False), (["x", "*", "y", "*", "z"], True)):
                self.assertIs(is_parting_text(one, other, value), wanted, value)
                self.assertIs(is_unlike_text(one, other, value), wanted, value)
        self.assertEqual([parting_size(one, other), len(unlike_text(one, other))], [5, 5])
        for thing in objects():
            self.assertIs(is_parting_text(one, other, thing), False)
            self.assertIs(is_unlike_text(one, other, thing), False)
            self.assertIs(is_parting_text(one, one, thing), False)
            self.assertIs(is_unlike_text(one, one, thing), False)

    def test_errors_in_their_order(self):
        for call in (is_parting_text, is_unlike_text):
            for arguments, wrong in (((None, 7, ["x"]), None), ((elder(), 7, ["x"]), 7), ((7, elder(), 7), 7), ((["x"], None, None), ["x"])):
                for _ in range(2):
                    with self.assertRaises(InvalidEdition) as caught:
                        call(*arguments)
                    self.assertEqual(caught.exception.value, wrong)

    def test_between_other_editions(self):
        # Asked in turns, and with new editions, the answers are the same.
        pairs = random_pairs(260, 70, 4, 4)
        first = [(parting_text(one, other), unlike_text(one, other)) for one, other in pairs]
        hub = elder()
        for one, other in pairs:
            is_parting_text(hub, one, ["a"])
            is_unlike_text(one, hub, ["a"])
        for at, (one, other) in reversed(list(enumerate(pairs))):
            fresh = (Edition(one.forms(), one.hard()), Edition(other.forms(), other.hard()))
            self.assertEqual((parting_text(*fresh), unlike_text(*fresh)), first[at])
            self.assertEqual((parting_text(one, other), unlike_text(one, other)), first[at])
        self.assertEqual(parting_text(hub, newer()), parting_text(elder(), newer()))

    def test_what_was_returned_may_be_changed(self):
        one, other = elder(), newer()
        for call in (parting_text, unlike_text):
            text = call(one, other)
            told = list(text)
            text.clear()
            self.assertEqual(call(one, other), told)

    def test_the_size_counts(self):
        for one, other in random_pairs(261, 60, 3, 4):
            size = parting_size(one, other)
            for text in naive_pairs.broken_texts(one, other, 4, 1500)[:20]:
                self.assertIs(is_parting_text(one, other, text), len(text) == size)

    def test_soon(self):
        one, other = elder(), newer()
        self.assertLess(seconds(lambda: [call(one, other, value) for call in (is_parting_text, is_unlike_text) for value in (7, None, ["x"], ["x", "*", "y", "+", "z"]) for _ in range(50)]), 0.6)


class RowsTest(unittest.TestCase):

    def test_the_answers(self):
        edition = elder()
        rows = used_rows(edition)
        self.assertEqual(len(rows), 87)
        for row in rows:
            text = used_text(edition, row)
            for value, wanted in ((7, False), (None, False), (text, True), (text + ["+", "x"], False), (text[:-1], False), (tuple(text), False), (["x"], False)):
                self.assertIs(is_used_text(edition, row, value), wanted)
            self.assertEqual(naive_pairs.rows_of_text(edition, text).count(row) > 0, True)

    def test_rows_that_are_none(self):
        edition = elder()
        for _ in range(2):
            for wrong in objects() + [("on", ("f", "_"), ("tail", "+")), ("left", ("_", "?", "_", ":", "_"), "*"), ["left", ("_", "+", "_"), "+"]]:
                if wrong in used_rows(edition):
                    continue
                for value in (7, ["x", "+", "x"]):
                    with self.assertRaises(InvalidRow) as caught:
                        is_used_text(edition, wrong, value)
                    self.assertIs(caught.exception.value, wrong)
        with self.assertRaises(InvalidEdition):
            is_used_text(None, None, None)

    def test_what_was_returned_may_be_changed(self):
        edition = elder()
        rows = used_rows(edition)
        rows.clear()
        self.assertEqual(len(used_rows(edition)), 87)
        text = used_text(edition, used_rows(edition)[0])
        told = list(text)
        text.append("x")
        self.assertEqual(used_text(edition, used_rows(edition)[0]), told)

    def test_soon(self):
        edition = elder()
        self.assertLess(seconds(lambda: [is_used_text(edition, row, 7) for row in used_rows(edition) for _ in range(25)]), 1.0)


class RoomsTest(unittest.TestCase):

    def test_the_answers(self):
        edition = elder()
        for value, wanted in (((None, None), False), ((7, 7), False), ((["x"], ["x"]), False), (room_ends(edition, TIMES), True), (list(room_ends(edition, TIMES)), False), (None, False), ((None,), False),
                              (room_ends(edition, TIMES) + (None,), False)):
            for _ in range(2):
                self.assertIs(are_room_ends(edition, TIMES, value), wanted, value)
        for thing in objects():
            self.assertIs(are_room_ends(edition, TIMES, thing), False)
            self.assertIs(are_room_ends(edition, TIMES, (thing, thing)), False)

    def test_keys_that_are_none(self):
        edition = elder()
        for wrong in objects() + [("tail", "-"), ["tail", "*"], ("hole", ("_",)), ("left", "f"), ("hole", ["f", "_"])]:
            for value in ((None, None), 7):
                with self.assertRaises(InvalidKey) as caught:
                    are_room_ends(edition, wrong, value)
                self.assertIs(caught.exception.value, wrong)

    def test_each_key(self):
        for edition in random_editions(262, 25, 3, 5):
            every = rooms(edition)
            self.assertEqual(list(every), list(numbers(edition)))
            for key in every:
                self.assertEqual(room(edition, key), every[key])
                least, greatest = every[key]
                ends = room_ends(edition, key)
                self.assertEqual([end is None for end in ends], [least == 0, greatest == 9])
                self.assertIs(are_room_ends(edition, key, ends), True)
                for at, level in ((0, least - 1), (1, greatest + 1)):
                    if ends[at] is not None:
                        self.assertIs(naive_pairs.broken(edition, changed(edition, ("level", key, level)), ends[at]), True)
                        longer = (ends[at] + ["+"], ends[1]) if at == 0 else (ends[0], ["("] + ends[at] + [")"])
                        self.assertIs(are_room_ends(edition, key, longer), False)
                        missing = (None, ends[1]) if at == 0 else (ends[0], None)
                        self.assertIs(are_room_ends(edition, key, missing), False)
                    else:
                        given = (["a"], ends[1]) if at == 0 else (ends[0], ["a"])
                        self.assertIs(are_room_ends(edition, key, given), False)

    def test_what_was_returned_may_be_changed(self):
        edition = elder()
        before = snapshot(room_ends(edition, TIMES))
        for end in room_ends(edition, TIMES):
            end.clear()
        rooms(edition).clear()
        self.assertEqual(snapshot(room_ends(edition, TIMES)), before)

    def test_soon(self):
        edition = elder()
        self.assertLess(seconds(lambda: [are_room_ends(edition, TIMES, value) for value in ((None, None), (7, 7), (["x"], ["x"])) for _ in range(50)]), 0.4)
