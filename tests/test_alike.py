"""Points 55 to 58: reduced tables, editions that are alike, normal editions and heights."""

import random
import unittest
from itertools import product

from keptreadings.alike import are_alike, height, height_chain, is_height_chain, is_two_form_text, normal, reduced_table, two_form_text, unlike_row
from keptreadings.editions import Edition, changed, changed_by, numbers
from keptreadings.errors import InvalidEdition
from keptreadings.kept import is_kept_text, kept
from keptreadings.reading import read
from keptreadings.tokens import cut
from tests import naive, naive_pairs
from tests.pairs import random_pairs, stock_pairs, told
from tests.samples import LET, NOT, PLUS, TIMES, objects, random_edition, random_editions, snapshot

LATE = (("_", "*", "_"), 3, (3, 4))
SUMS, LOOSE = Edition([PLUS, TIMES], []), Edition([PLUS, LATE], [])
POST, PRE = (("_", "!"), 6, (5,)), (("-", "_"), 7, (7,))


def own_key(pattern):
    return ("tail", pattern[1]) if pattern[0] == "_" else ("head", pattern[0])


def naive_table(edition):
    """[55], from the levels by keys."""
    levels = numbers(edition)
    owns = [key for key in levels if key[0] in ("head", "tail")]
    rows = [("on", key[1], own) for key in levels if key[0] == "hole" for own in owns if levels[own] >= levels[key]]
    for pattern in [form[0] for form in edition.forms()]:
        for tail in [own[1] for own in owns if own[0] == "tail"]:
            caught = pattern[-1] == "_" and levels[("hole", pattern)] <= levels[("tail", tail)]
            if not caught and levels[("left", tail)] <= levels[own_key(pattern)]:
                rows.append(("left", pattern, tail))
    return sorted(rows)


def naive_comparisons(edition):
    """[58]: for the pairs (lower, upper) whether the level at the upper one is more, by the table."""
    levels, table = numbers(edition), naive_table(edition)
    owns = [key for key in levels if key[0] in ("head", "tail")]
    found = {}
    for place in [key[1] for key in levels if key[0] == "hole"]:
        for own in owns:
            if ("on", place, own) in table:
                found[(("hole", place), own)] = False
            else:
                found[(own, ("hole", place))] = True
    for pattern in [form[0] for form in edition.forms()]:
        for tail in [own[1] for own in owns if own[0] == "tail"]:
            if ("left", pattern, tail) in table:
                found[(("left", tail), own_key(pattern))] = False
            elif not (pattern[-1] == "_" and ("on", pattern, ("tail", tail)) in table):
                found[(own_key(pattern), ("left", tail))] = True
    return found


def with_levels(edition, levels):
    return changed_by(edition, [("level", key, level) for key, level in levels.items()])


def small_stocks(seed, count, most_keys):
    source = random.Random(seed)
    found = []
    while len(found) < count:
        tokens = source.sample(["a", "b", "+", "-"], 2)
        edition = random_edition(source, tokens, 2, 3)
        if 0 < len(numbers(edition)) <= most_keys:
            found.append(edition)
    return found


class TableTest(unittest.TestCase):

    def test_heads(self):
        self.assertEqual(reduced_table(Edition([NOT], [])), [("on", NOT[0], ("head", "not"))])
        self.assertEqual(reduced_table(Edition([(NOT[0], 7, (8,))], [])), [])
        both = Edition([NOT, LET], [])
        let = ("let", "_")
        self.assertEqual(reduced_table(both), [("on", let, ("head", "let")), ("on", let, ("head", "not")), ("on", LET[0], ("head", "let")),
                                               ("on", LET[0], ("head", "not")), ("on", NOT[0], ("head", "not"))])
        self.assertEqual(reduced_table(Edition([(("nil",), 3, ())], ["nil"])), [])
        self.assertEqual(reduced_table(Edition([], [])), [])

    def test_own_levels_and_those_of_holes(self):
        hole = ("_", "+", "_")
        for own in range(10):
            for asked in range(10):
                table = reduced_table(Edition([(hole, own, (9, asked))], []))
                self.assertEqual(("on", hole, ("tail", "+")) in table, own >= asked)

    def test_left_levels_and_own_levels(self):
        # A pattern that catches the token stands in no such tuple.
        for own in range(4):
            for left in range(4):
                for asked in range(4):
                    edition = Edition([(("_", "+", "_"), own, (left, asked))], [])
                    wanted = asked > own >= left
                    self.assertEqual(("left", ("_", "+", "_"), "+") in reduced_table(edition), wanted)
                edition = Edition([(("_", "+"), own, (left,))], [])
                self.assertEqual(reduced_table(edition), [("left", ("_", "+"), "+")] if own >= left else [])
        # A head that ends with a hole, and one that does not.
        for asked, wanted in ((7, [("left", PRE[0], "!"), ("left", POST[0], "!")]), (6, [("left", POST[0], "!")])):
            table = reduced_table(Edition([POST, (PRE[0], 7, (asked,))], []))
            self.assertEqual([row for row in table if row[0] == "left"], wanted)
        box = reduced_table(Edition([POST, (("[", "_", "]"), 4, (0,))], []))
        self.assertNotIn(("left", ("[", "_", "]"), "!"), box)
        self.assertIn(("left", ("[", "_", "]"), "!"), reduced_table(Edition([POST, (("[", "_", "]"), 5, (0,))], [])))

    def test_several_holes(self):
        edition = Edition([(("_", "?", "_", ":", "_"), 3, (4, 2, 3)), PLUS], [])
        middle, last, hole = ("_", "?", "_"), ("_", "?", "_", ":", "_"), ("_", "+", "_")
        self.assertEqual(reduced_table(edition), [
            ("left", hole, "+"), ("left", hole, "?"), ("on", middle, ("tail", "+")), ("on", middle, ("tail", "?")),
            ("on", last, ("tail", "+")), ("on", last, ("tail", "?"))])

    def test_many(self):
        for edition in random_editions(56, 150, 6, 6):
            self.assertEqual(reduced_table(edition), naive_table(edition))


class AlikeTest(unittest.TestCase):

    def test_of_one_stock(self):
        self.assertIs(are_alike(SUMS, SUMS), True)
        self.assertIs(are_alike(SUMS, LOOSE), False)
        self.assertIs(are_alike(SUMS, changed(SUMS, ("level", ("hole", PLUS[0]), 6))), True)
        self.assertIs(are_alike(SUMS, changed(SUMS, ("level", ("tail", "*"), 5))), False)

    def test_of_other_stocks(self):
        for one, other in ((SUMS, Edition([PLUS], [])), (Edition([NOT], []), Edition([NOT], ["not"])), (Edition([], []), SUMS)):
            self.assertIs(are_alike(one, other), False)
            self.assertIs(are_alike(other, one), False)
            for ask in (unlike_row, two_form_text, lambda first, second: is_two_form_text(first, second, ["x"])):
                with self.assertRaises(InvalidEdition) as caught:
                    ask(one, other)
                self.assertIs(caught.exception.value, other)

    def test_errors_in_order(self):
        for wrong in (None, [SUMS], "x", SUMS.forms()):
            for ask in (are_alike, unlike_row, two_form_text, lambda first, second: is_two_form_text(first, second, None)):
                for one, other in ((wrong, SUMS), (wrong, [wrong]), (SUMS, wrong)):
                    with self.assertRaises(InvalidEdition) as caught:
                        ask(one, other)
                    self.assertIs(caught.exception.value, wrong)

    def test_many(self):
        seen = set()
        for one, other in random_pairs(57, 150, 4, 3) + stock_pairs(57, 150, 4, 3):
            wanted = kept(one, other) and kept(other, one)
            self.assertIs(are_alike(one, other), wanted, told(one, other))
            self.assertIs(are_alike(other, one), wanted)
            seen.add(wanted)
        self.assertEqual(seen, {True, False})

    def test_held_against_all_texts(self):
        for one, other in stock_pairs(58, 60, 2, 2):
            if are_alike(one, other):
                for text in naive.all_texts(naive_pairs.tokens_of(one, other)[:7], 4):
                    self.assertEqual(naive.read(one, text), naive.read(other, text))


class UnlikeRowTest(unittest.TestCase):

    def test_rows(self):
        self.assertEqual(unlike_row(SUMS, LOOSE), ("left", TIMES[0], "+"))
        self.assertIsNone(unlike_row(SUMS, changed(SUMS, ("level", ("hole", PLUS[0]), 6))))
        deep = changed(SUMS, ("level", ("tail", "+"), 5))
        self.assertEqual(unlike_row(SUMS, deep), ("left", PLUS[0], "+"))
        self.assertEqual(unlike_row(deep, SUMS), ("left", PLUS[0], "+"))

    def test_many(self):
        for one, other in stock_pairs(59, 200, 4, 3):
            lone = set(reduced_table(one)) ^ set(reduced_table(other))
            self.assertEqual(unlike_row(one, other), min(lone) if lone else None)


class TwoFormTextTest(unittest.TestCase):

    def count(self, edition, text):
        outcome = read(edition, text)
        return len(naive_pairs.patterns_in(outcome[1])) if outcome[0] == "read" else 0

    def test_there_is_one_unless_they_are_alike(self):
        for one, other in stock_pairs(60, 300, 5, 4):
            text = two_form_text(one, other)
            self.assertIs(text is None, are_alike(one, other), told(one, other))
            if text is not None:
                self.assertTrue(naive_pairs.broken(one, other, text) or naive_pairs.broken(other, one, text))
                self.assertLessEqual(max(self.count(one, text), self.count(other, text)), 2)
                self.assertIs(is_two_form_text(one, other, text), True)
                self.assertIs(is_two_form_text(other, one, text), True)
                self.assertIs(is_two_form_text(one, other, ["("] + text + [")"]), True)
                self.assertIs(is_two_form_text(one, one, text), False)

    def test_texts(self):
        for line in ("x + y * z", "x * y + z", "( x + y * z )", "x + (y) * 'z"):
            self.assertIs(is_two_form_text(SUMS, LOOSE, cut(line)), True, line)
        for line in ("x + y", "x + y * z + z", "x * y * z", "x + + y", "x", "", "(x + y) * z"):
            self.assertIs(is_two_form_text(SUMS, LOOSE, cut(line)), False, line)
        for thing in objects() + [tuple(cut("x + y * z"))]:
            self.assertIs(is_two_form_text(SUMS, LOOSE, thing), False)

    def test_the_same_form_counts_as_often_as_it_stands(self):
        one, other = Edition([PLUS], []), Edition([(PLUS[0], 4, (4, 4))], [])
        self.assertIs(is_two_form_text(one, other, cut("x + y + z")), True)
        self.assertIs(is_two_form_text(one, other, cut("x + y + z + w")), False)
        self.assertIs(is_kept_text(one, other, cut("x + y + z + w")), False)

    def test_the_forms_of_both_trees_count(self):
        one, other = Edition([NOT, PLUS], ["not"]), Edition([(NOT[0], 3, (8,)), PLUS], ["not"])
        self.assertIs(is_two_form_text(one, other, cut("not x + y")), True)
        self.assertIs(is_two_form_text(one, other, cut("x + not y")), True)
        self.assertIs(is_two_form_text(one, other, cut("x + not y + z")), False)
        self.assertIs(is_two_form_text(other, one, cut("x + not y + z")), False)

    def test_texts_of_two_forms_are_not_enough_one_way(self):
        forms = [(("f", "_"), 1, (1,)), (("g", "_"), 2, (1,)), (("_", "!"), 0, (2,))]
        elder = Edition(forms, [])
        newer = changed(elder, ("level", ("hole", ("f", "_")), 0))
        self.assertIs(is_kept_text(elder, newer, cut("g f x !")), False)
        two = [text for text in naive_pairs.broken_texts(elder, newer, 4) if self.count(elder, text) <= 2]
        self.assertEqual(two, [])
        self.assertIs(naive_pairs.broken(newer, elder, two_form_text(elder, newer)), True)


class NormalTest(unittest.TestCase):

    def test_levels(self):
        self.assertEqual(normal(SUMS).forms(), [(TIMES[0], 1, (0, 2)), (PLUS[0], 0, (0, 1))])
        self.assertEqual(normal(Edition([NOT, LET], ["let"])), Edition([(NOT[0], 1, (1,)), (LET[0], 0, (0, 0))], ["let"]))
        self.assertEqual(normal(Edition([], [])), Edition([], []))

    def test_one_for_all_that_are_alike(self):
        for one, other in stock_pairs(61, 200, 5, 4):
            low = normal(one)
            self.assertIs(are_alike(one, low), True)
            self.assertEqual(normal(low), low)
            self.assertIs(normal(one) == normal(other), are_alike(one, other))
            self.assertEqual(reduced_table(low), reduced_table(one))

    def test_held_against_all_levels(self):
        for edition in small_stocks(62, 40, 4):
            low = numbers(normal(edition))
            alike = []
            for levels in product(range(4), repeat=len(low)):
                other = with_levels(edition, dict(zip(low, levels)))
                if naive_table(other) == naive_table(edition):
                    alike.append(levels)
            self.assertEqual(tuple(low.values()), tuple(min(column) for column in zip(*alike)))
            self.assertEqual(height(edition), min(max(levels) for levels in alike))


class HeightTest(unittest.TestCase):

    def test_heights(self):
        self.assertEqual([height(edition) for edition in (Edition([], []), Edition([NOT], []), Edition([PLUS], []), SUMS)], [0, 0, 1, 2])
        steep = Edition([(("_", sign, "_"), at, (at, at + 1)) for at, sign in enumerate("+-*/<>=&")], [])
        self.assertEqual(height(steep), 8)

    def test_chains(self):
        chain = [("tail", "+"), ("hole", PLUS[0]), ("tail", "*"), ("hole", TIMES[0])]
        self.assertEqual(height_chain(Edition([], [])), [])
        self.assertIs(is_height_chain(SUMS, chain), True)
        for wrong in (chain[:3], chain[1:], chain[::-1], chain[:1] * 2 + chain[1:], chain + chain[-1:], chain[:2] + chain[:2], [], chain[:1],
                      [chain[0], chain[3]], chain[:1] + chain[2:], chain[:2] + chain[3:], tuple(chain), chain + [("tail", "+")],
                      [list(key) for key in chain], chain[:3] + [("hole", list(TIMES[0]))], chain[:3] + [("hole", ("_", "/", "_"))], [chain]):
            self.assertIs(is_height_chain(SUMS, wrong), False, wrong)
        # A key more at the lower end, by what is at least so.
        self.assertIs(is_height_chain(SUMS, [("left", "+")] + chain), True)
        self.assertIs(is_height_chain(SUMS, [("left", "*")] + chain), False)

    def test_an_edition_without_forms(self):
        self.assertIs(is_height_chain(Edition([], []), []), True)
        for thing in objects():
            self.assertIs(is_height_chain(Edition([], []), thing), thing == [] and isinstance(thing, list))
            self.assertIs(is_height_chain(SUMS, thing), False)

    def test_an_edition_of_height_nought(self):
        flat = Edition([NOT], [])
        for chain in ([("head", "not")], [("hole", NOT[0])], [("hole", NOT[0]), ("head", "not")]):
            self.assertIs(is_height_chain(flat, chain), True)
        for chain in ([], [("head", "not"), ("hole", NOT[0])], [("head", "not")] * 2):
            self.assertIs(is_height_chain(flat, chain), False)
        self.assertIs(is_height_chain(flat, height_chain(flat)), True)

    def told(self, edition, chain):
        """Whether a list of keys is a chain, by comparisons told a second time."""
        rules = naive_comparisons(edition)
        pairs = list(zip(chain, chain[1:]))
        return bool(chain) and all(pair in rules for pair in pairs) and sum(rules[pair] for pair in pairs) == height(edition)

    def test_many(self):
        source = random.Random(63)
        for edition in random_editions(63, 200, 5, 5):
            chain = height_chain(edition)
            self.assertIs(is_height_chain(edition, chain), True)
            before = snapshot(chain)
            keys = list(numbers(edition))
            if not keys:
                continue
            self.assertTrue(self.told(edition, chain))
            self.assertEqual(height(edition), max(numbers(normal(edition)).values()))
            at = source.randrange(len(chain))
            others = [chain[1:], chain[:-1], chain[:at] + chain[at + 1:], chain[:at] + [source.choice(keys)] + chain[at:],
                      chain[::-1], [source.choice(keys)], source.sample(keys, min(3, len(keys)))]
            for other in others:
                self.assertIs(is_height_chain(edition, other), self.told(edition, other), (edition.forms(), other))
            self.assertEqual(snapshot(height_chain(edition)), before)

    def test_held_against_the_levels_of_editions_that_are_alike(self):
        for edition in small_stocks(64, 25, 4):
            keys = list(numbers(edition))
            for (lower, upper), is_more in naive_comparisons(edition).items():
                for levels in product(range(3), repeat=len(keys)):
                    by_key = dict(zip(keys, levels))
                    if naive_table(with_levels(edition, by_key)) == naive_table(edition):
                        self.assertGreaterEqual(by_key[upper], by_key[lower] + is_more)
