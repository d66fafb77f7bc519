"""Points 125 to 127: one edition for several, quarrels, quarrelling lots."""

import random
import unittest
from itertools import combinations, product

from keptreadings.agreeing import greatest_agreeing, is_agreeing, is_quarrel, least_agreeing, quarrel, quarrelling
from keptreadings.editions import Edition, changed_by, numbers
from keptreadings.errors import InvalidEditions
from keptreadings.kept import kept
from keptreadings.rooms import greatest_keeping, least_keeping, used_rows
from tests.pairs import with_other_levels
from tests.samples import NOT, PLUS, TIMES, objects, random_editions

PLUS_P, TIMES_P, NOT_P, LESS_P, POWER_P = PLUS[0], TIMES[0], NOT[0], ("_", "-", "_"), ("_", "^", "_")
HERE = Edition([PLUS, TIMES, NOT], [])
FIRST = Edition([(PLUS_P, 5, (9, 9)), (TIMES_P, 4, (9, 5)), (LESS_P, 4, (9, 9)), (POWER_P, 4, (9, 9))], [])
SECOND = Edition([(PLUS_P, 3, (9, 9)), (TIMES_P, 4, (9, 9)), (LESS_P, 3, (9, 9)), (POWER_P, 3, (4, 9))], [])
THIRD = Edition([(PLUS_P, 4, (4, 9)), (TIMES_P, 3, (9, 9)), (LESS_P, 4, (9, 5)), (POWER_P, 5, (9, 9))], [])
RING = [(0, ("on", TIMES_P, ("tail", "+"))), (2, ("off", LESS_P, ("tail", "+"))), (2, ("on", LESS_P, ("tail", "^"))), (1, ("off", TIMES_P, ("tail", "^")))]


def ends_of(row):
    """The lower and the upper key of a row, as [126] tells them."""
    own = ("tail", row[1][1]) if row[1][0] == "_" else ("head", row[1][0])
    if row[0] == "on":
        return (("hole", row[1]), row[2])
    if row[0] == "off":
        return (row[2], ("hole", row[1]))
    return (("left", row[2]), own)


def says(row, levels):
    lower, upper = ends_of(row)
    return levels[upper] > levels[lower] if row[0] == "off" else levels[upper] >= levels[lower]


def with_levels(edition, levels):
    return changed_by(edition, [("level", key, levels[key]) for key in levels])


def stocks(seed, count, many, height):
    """Lists of editions of one stock."""
    source = random.Random(seed)
    found = []
    for edition in random_editions(seed, count, many, height):
        others = [with_other_levels(source, edition, height, source.randint(1, 4)) for _ in range(source.randint(0, 3))]
        found.append([edition] + others)
    return found


def tails(levels):
    """An edition of tails by signs, each with its own level and those of its holes."""
    return Edition([(("_", sign, "_"), own, holes) for sign, own, holes in levels], [])


class AgreeingTest(unittest.TestCase):

    def test_one_edition(self):
        for editions in stocks(190, 60, 4, 5):
            one = editions[:1]
            self.assertEqual(least_agreeing(one), least_keeping(one[0]))
            self.assertEqual(greatest_agreeing(one), greatest_keeping(one[0]))
            self.assertIs(is_agreeing(one, one[0]), True)
            self.assertIsNone(quarrel(one))
            self.assertEqual(quarrelling(one * 3), [])

    def test_against_all_levels(self):
        # All editions of small stocks: those that keep all texts of each.
        seen = set()
        source = random.Random(191)
        tries = 0
        while tries < 24:
            forms = random_editions(source.randint(0, 10 ** 6), 1, 1, 3)[0].forms()
            if not forms or len(numbers(Edition(forms, [form[0][0] for form in forms if len(form[0]) == 1 and form[0][0].isalpha()]))) > 3:
                continue
            tries += 1
            hard = [form[0][0] for form in forms if len(form[0]) == 1 and form[0][0].isalpha()]
            base = Edition(forms, hard)
            keys = list(numbers(base))
            editions = [with_levels(base, {key: source.randint(0, 9) for key in keys}) for _ in range(source.randint(1, 3))]
            agreeing = []
            for levels in product(range(0, 10) if len(keys) < 3 else range(0, 10, 3), repeat=len(keys)):
                other = with_levels(base, dict(zip(keys, levels)))
                wanted = all(kept(edition, other) for edition in editions)
                self.assertIs(is_agreeing(editions, other), wanted)
                if wanted:
                    agreeing.append(levels)
            least, greatest = least_agreeing(editions), greatest_agreeing(editions)
            seen.add((bool(agreeing), len(editions) > 1))
            if agreeing and len(keys) < 3:
                self.assertEqual(numbers(least), dict(zip(keys, [min(row) for row in zip(*agreeing)])))
                self.assertEqual(numbers(greatest), dict(zip(keys, [max(row) for row in zip(*agreeing)])))
            self.assertIs(least is None, greatest is None)
            if least is None:
                self.assertEqual(agreeing, [])
                self.assertIs(is_quarrel(editions, quarrel(editions)), True)
            else:
                self.assertTrue(all(kept(edition, least) and kept(edition, greatest) for edition in editions))
        self.assertLessEqual({(True, False), (True, True)}, seen)

    def test_lowest_and_highest_at_each_key(self):
        seen = set()
        for editions in stocks(192, 170, 4, 6):
            least, greatest = least_agreeing(editions), greatest_agreeing(editions)
            rows = sorted({row for edition in editions for row in used_rows(edition)})
            seen.add(least is None)
            self.assertIs(least is None, quarrel(editions) is not None)
            self.assertIs(least is None, greatest is None)
            if least is None:
                continue
            for found, step in ((least, -1), (greatest, 1)):
                levels = numbers(found)
                self.assertTrue(all(says(row, levels) for row in rows))
                self.assertTrue(all(kept(edition, found) for edition in editions))
                self.assertIs(is_agreeing(editions, found), True)
            low, high = numbers(least), numbers(greatest)
            source = random.Random(5)
            for _ in range(25):
                # No levels that are so at any key beyond the two are as the rows say.
                levels = {key: source.randint(low[key], high[key]) for key in low}
                right = all(says(row, levels) for row in rows)
                self.assertIs(is_agreeing(editions, with_levels(editions[0], levels)), right)
                if low:
                    key = source.choice(list(low))
                    levels[key] = source.choice([low[key] - 1, high[key] + 1])
                    if 0 <= levels[key] <= 9:
                        self.assertIs(is_agreeing(editions, with_levels(editions[0], levels)), False)
        self.assertEqual(seen, {True, False})

    def test_other_objects(self):
        one = Edition([(PLUS_P, 5, (5, 6))], [])
        for value, wanted in (
            (Edition([(PLUS_P, 2, (1, 3))], []), True), (Edition([(PLUS_P, 2, (3, 3))], []), False), (Edition([(PLUS_P, 3, (1, 3))], []), False), (one, True),
            (Edition([(PLUS_P, 5, (5, 6)), NOT], []), False), (Edition([], []), False), ([one], False), (None, False),
        ):
            self.assertIs(is_agreeing([one, one], value), wanted)
        hard, soft = Edition([NOT], ["not"]), Edition([NOT], [])
        self.assertIs(is_agreeing([hard], soft), False)
        self.assertIs(is_agreeing([soft], hard), False)
        for thing in objects():
            self.assertIs(is_agreeing([HERE], thing), False)
            self.assertIs(is_agreeing([Edition([], [])], thing), thing == Edition([], []))
        self.assertEqual([least_agreeing([Edition([], [])]), greatest_agreeing([Edition([], [])] * 2), quarrel([Edition([], [])])], [Edition([], []), Edition([], []), None])

    def test_editions_of_other_stocks(self):
        calls = (least_agreeing, greatest_agreeing, quarrel, quarrelling, lambda editions: is_agreeing(editions, HERE), lambda editions: is_quarrel(editions, []))
        for wrong in ([], [HERE, Edition([PLUS, TIMES], [])], [HERE, Edition([PLUS, TIMES, NOT], ["not"])], (HERE,), HERE, [HERE, None], [HERE, [HERE]], None):
            for call in calls:
                with self.assertRaises(InvalidEditions) as caught:
                    call(wrong)
                self.assertIs(caught.exception.value, wrong)


class QuarrelTest(unittest.TestCase):

    def test_a_ring(self):
        row = [FIRST, SECOND, THIRD]
        self.assertIsNone(least_agreeing(row))
        self.assertIsNone(greatest_agreeing(row))
        found = quarrel(row)
        self.assertIs(is_quarrel(row, found), True)
        for at in range(4):
            self.assertIs(is_quarrel(row, RING[at:] + RING[:at]), True)
            self.assertIs(is_quarrel(row, RING[:at] + RING[at + 1:]), False)
        self.assertIs(is_quarrel(row, RING + RING), True)
        self.assertIs(is_quarrel(row, RING + RING[:2]), False)
        # Ten that say more are enough, wherever they end.
        for lot, wanted in ((RING * 4 + RING[:2], False), (RING * 4 + RING[:3], False), ((RING * 5)[1:], True), ((RING * 5)[2:], False), (RING * 5 + RING[:1], True)):
            self.assertIs(is_quarrel(row, lot), wanted)
        self.assertIs(is_quarrel(row, RING + RING[:1]), False)
        for value in (RING[::-1], [RING[1], RING[0]] + RING[2:], [], tuple(RING), [list(thing) for thing in RING], [(3, RING[0][1])] + RING[1:], [(-1, RING[0][1])] + RING[1:],
                      [(False, RING[0][1])] + RING[1:], [(1, RING[0][1])] + RING[1:], RING[:3] + [(2, RING[3][1])], RING[:3] + [None], RING[:3] + [RING[3] + (None,)],
                      RING[:3] + [(1, list(RING[3][1]))], RING[:3] + [("1", RING[3][1])], None, RING[0]):
            self.assertIs(is_quarrel(row, value), False, value)
        for thing in objects():
            self.assertIs(is_quarrel(row, thing), False)
            self.assertIs(is_quarrel([HERE], thing), False)

    def test_a_ring_that_asks_for_nothing_is_none(self):
        # Of rows that say at least alone, a ring tells that levels are equal.
        edition = Edition([(PLUS_P, 5, (5, 5))], [])
        self.assertIs(is_quarrel([edition], [(0, ("on", PLUS_P, ("tail", "+")))]), False)
        two = Edition([(PLUS_P, 5, (0, 5)), (TIMES_P, 5, (0, 5))], [])
        ons = [row for row in used_rows(two) if row[0] == "on"]
        self.assertEqual(len(ons), 4)
        for lot in combinations([(0, row) for row in used_rows(two)], 2):
            self.assertIs(is_quarrel([two], list(lot)), False)

    def test_chains_of_ten(self):
        # The own level of each tail is below its hole's, this at most the own level of the next one: eleven steps
        # up. One edition tells the first six, the other one the rest; neither tells anything against the other.
        signs = "+-*/<>=&|@^"
        pair = []
        for group in (range(6), range(6, 11)):
            counts = [len([by for by in group if by <= at]) for at in range(11)]
            pair.append(tails([(sign, counts[at], (0 if at in group else 9, counts[at] + 1)) for at, sign in enumerate(signs)]))
        chain = []
        for at, sign in enumerate(signs):
            if at > 0:
                chain.append((at // 6, ("on", ("_", signs[at - 1], "_"), ("tail", sign))))
            chain.append((at // 6, ("off", ("_", sign, "_"), ("tail", sign))))
        self.assertEqual(len(chain), 21)
        for lot, wanted in ((chain, True), (chain[2:], True), (chain[:-2], True), (chain[1:-1], False), (chain[2:-1], False), (chain[2:-2], False), (chain[3:], False),
                            (chain[:1], False), (chain[10:], False), (chain[:5] + chain[6:], False)):
            self.assertIs(is_quarrel(pair, lot), wanted)
        self.assertEqual([least_agreeing(pair), greatest_agreeing(pair), quarrelling(pair)], [None, None, [[0, 1]]])
        found = quarrel(pair)
        self.assertIs(is_quarrel(pair, found), True)
        self.assertGreaterEqual([row[0] for _, row in found].count("off"), 10)
        self.assertNotEqual(ends_of(found[0][1])[0], ends_of(found[-1][1])[1])
        # With one tail less at each end there are levels enough.
        fewer = [Edition([form for form in edition.forms() if form[0][1] not in "+^"], []) for edition in pair]
        self.assertIsNotNone(least_agreeing(fewer))
        self.assertEqual(max(numbers(least_agreeing(fewer)).values()), 9)
        self.assertIsNone(quarrel(fewer))

    def test_each_row_is_used_and_goes_on(self):
        many = 0
        for editions in stocks(193, 260, 5, 9):
            found = quarrel(editions)
            self.assertIs(found is None, least_agreeing(editions) is not None)
            if found is None:
                continue
            many += 1
            for at, row in found:
                self.assertIn(row, used_rows(editions[at]))
            ends = [ends_of(row) for _, row in found]
            self.assertTrue(all(one[1] == other[0] for one, other in zip(ends, ends[1:])))
            offs = [row[0] for _, row in found].count("off")
            self.assertTrue(offs >= 10 or (offs >= 1 and ends[0][0] == ends[-1][1]))
            self.assertIs(is_quarrel(editions, found), True)
            self.assertIs(is_quarrel(editions[:1], found), False)
            if offs < 10:
                self.assertIs(is_quarrel(editions, found[1:] + found[:1]), True)
                self.assertIs(is_quarrel(editions, found[1:]), False)
        self.assertGreater(many, 15)


class QuarrellingTest(unittest.TestCase):

    def test_each_two_agree_and_all_three_do_not(self):
        row = [FIRST, SECOND, THIRD]
        self.assertEqual(quarrelling(row), [[0, 1, 2]])
        self.assertEqual([quarrelling([row[at] for at in lot]) for lot in ([0, 1], [0, 2], [1, 2], [0], [2, 1])], [[]] * 5)
        self.assertEqual(quarrelling([FIRST, FIRST, SECOND, THIRD]), [[0, 2, 3], [1, 2, 3]])
        self.assertEqual(quarrelling([THIRD, FIRST, SECOND]), [[0, 1, 2]])

    def test_against_all_lots(self):
        seen = set()
        for editions in stocks(194, 170, 4, 6):
            lots = [list(lot) for size in range(1, len(editions) + 1) for lot in combinations(range(len(editions)), size)]
            bad = [lot for lot in lots if least_agreeing([editions[at] for at in lot]) is None]
            least = sorted(lot for lot in bad if not any(set(other) < set(lot) for other in bad))
            self.assertEqual(quarrelling(editions), least)
            seen.update(len(lot) for lot in least)
        self.assertIn(2, seen)

    def test_two_lots_with_one_in_common(self):
        left, right = Edition([(PLUS_P, 5, (5, 6))], []), Edition([(PLUS_P, 5, (6, 5))], [])
        self.assertEqual(quarrelling([left, right, left, right]), [[0, 1], [0, 3], [1, 2], [2, 3]])
