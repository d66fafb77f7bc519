"""Points 80 to 84: one text for all, texts led over, idle brackets."""

import random
import unittest
from itertools import combinations, product

from keptreadings.editions import Edition
from keptreadings.errors import Fault, InvalidEdition, InvalidEditions, InvalidText, InvalidTree, UnknownForm
from keptreadings.leading import apart_for_all, are_apart_for_all, are_for_all, are_idle_pairs, idle_number, idle_pairs, is_led_over
from keptreadings.leading import led_over, led_price, marks_in, needed_for_all, one_for_all
from keptreadings.marks import fewest_marks, marked, need_ways
from keptreadings.reading import read
from keptreadings.tokens import cut
from keptreadings.trees import paths
from tests import naive
from tests.pairs import random_pairs, told, with_other_levels
from tests.samples import LET, NOT, PLUS, TIMES, objects
from tests.test_marks import between, random_trees

PLUS_P, TIMES_P, NOT_P = PLUS[0], TIMES[0], NOT[0]
A, B, C = ("name", "a"), ("name", "b"), ("name", "c")
TIGHT = Edition([PLUS, TIMES, NOT, LET], ["let"])
FLAT = Edition([PLUS, (TIMES_P, 4, (4, 5)), NOT, LET], [])
RIGHT = Edition([(PLUS_P, 4, (5, 4)), (TIMES_P, 6, (7, 6)), NOT, LET], ["let", "not"])


def groups(seed, count, many):
    """Lists of one to four editions of the same patterns, with a small tree."""
    source = random.Random(seed)
    found = []
    for edition, tree in random_trees(seed, count, many):
        others = [with_other_levels(source, edition, 4, source.randint(1, 4)) for _ in range(source.randint(0, 3))]
        found.append(([edition] + others, tree))
    return found


def read_texts(seed, count, many):
    """Editions with texts that they read, some of whose parts are marked more than they need."""
    source = random.Random(seed)
    found = []
    for edition, tree in random_trees(seed, count, many):
        for _ in range(3):
            pairs = {path: source.choice([0, 0, 0, 1, 1, 2]) for path in paths(tree)}
            quotes = [path for path in paths(tree) if naive_part(tree, path)[0] == "name" and source.random() < 0.4]
            text = laid(tree, (), pairs, quotes)
            if read(edition, text) == ("read", tree):
                found.append((edition, text))
    return found


class ForAllTest(unittest.TestCase):

    def test_one_edition_and_the_same_twice(self):
        for editions, tree in groups(160, 60, 4):
            for row in ([editions[0]], [editions[0], editions[0]]):
                self.assertEqual(needed_for_all(row, tree), fewest_marks(editions[0], tree))
                self.assertIs(are_for_all(row, tree, one_for_all(row, tree)), True)

    def test_their_own_numbers_are_lower_than_theirs_together(self):
        tree = (TIMES_P, [(PLUS_P, [A, B]), (PLUS_P, [(TIMES_P, [A, B]), C])])
        lows = Edition([(PLUS_P, 4, (4, 5)), (TIMES_P, 6, (0, 7))], [])
        one, other = Edition([(PLUS_P, 4, (0, 9)), (TIMES_P, 3, (4, 5))], []), lows
        self.assertEqual([fewest_marks(edition, tree) for edition in (one, other)], [1, 2])
        left, right = Edition([(PLUS_P, 4, (4, 4))], []), Edition([(PLUS_P, 4, (5, 4))], [])
        tree = (PLUS_P, [(PLUS_P, [A, B]), (PLUS_P, [B, C])])
        self.assertEqual([fewest_marks(edition, tree) for edition in (left, right)], [1, 1])
        lefts = Edition([(PLUS_P, 4, (4, 5))], [])
        self.assertEqual([fewest_marks(lefts, tree), fewest_marks(right, tree), needed_for_all([lefts, right], tree)], [1, 1, 2])
        self.assertEqual(one_for_all([lefts, right], tree), [(0,), (1,)])

    def test_against_all_lists_of_marks(self):
        seen = set()
        for editions, tree in groups(161, 240, 4):
            every = paths(tree)
            if len(every) > 6:
                continue
            fewest = None
            for size in range(len(every) + 1):
                for marks in combinations(every, size):
                    marks = list(marks)
                    right = all(naive.read(edition, marked(tree, marks)) == ("read", tree) for edition in editions)
                    if right and fewest is None:
                        fewest = size
                    self.assertIs(are_for_all(editions, tree, marks), right and size == fewest)
            self.assertEqual(needed_for_all(editions, tree), fewest)
            self.assertIs(are_for_all(editions, tree, one_for_all(editions, tree)), True)
            seen.add((len(editions) > 1, fewest > max(fewest_marks(edition, tree) for edition in editions)))
        self.assertEqual(seen, {(False, False), (True, True), (True, False)})

    def test_other_marks(self):
        tree = (PLUS_P, [A, (TIMES_P, [B, C])])
        editions = [TIGHT, FLAT]
        self.assertEqual(one_for_all(editions, tree), [(1,)])
        for marks in ([(1,), (1,)], [()], [(0,)], [], [(0,), (1,)], [(True,)], [[1]], ((1,),), [(2,)], None):
            self.assertIs(are_for_all(editions, tree, marks), False, marks)
        two = (PLUS_P, [(PLUS_P, [(NOT_P, [(PLUS_P, [A, B])]), (PLUS_P, [A, B])]), C])
        marks = one_for_all([TIGHT], two)
        self.assertEqual(len(marks), 2)
        self.assertIs(are_for_all([TIGHT], two, marks), True)
        self.assertIs(are_for_all([TIGHT], two, marks[::-1]), False)
        self.assertIs(are_for_all([TIGHT], two, [()] + marks), False)
        for thing in objects():
            self.assertIs(are_for_all(editions, tree, thing), False)
            self.assertIs(are_for_all([TIGHT], A, thing), isinstance(thing, list) and not thing)

    def test_wrong_editions_and_trees(self):
        tree = (PLUS_P, [A, (TIMES_P, [(NOT_P, [B]), C])])
        for wrong in ([], [TIGHT, None], (TIGHT,), TIGHT, [TIGHT, [FLAT]], None):
            for call in (needed_for_all, one_for_all, apart_for_all):
                for other in (tree, None):
                    with self.assertRaises(InvalidEditions) as caught:
                        call(wrong, other)
                    self.assertIs(caught.exception.value, wrong)
        lacking = [Edition([PLUS, TIMES], []), Edition([PLUS], []), Edition([], [])]
        for rest, first in ((lacking, NOT_P), (lacking[1:], TIMES_P), (lacking[2:], PLUS_P)):
            for call in (needed_for_all, one_for_all, apart_for_all, lambda editions, one: are_for_all(editions, one, []),
                         lambda editions, one: are_apart_for_all(editions, one, [])):
                with self.assertRaises(UnknownForm) as caught:
                    call([TIGHT] + rest, tree)
                self.assertEqual(caught.exception.value, first)
                with self.assertRaises(InvalidTree):
                    call([TIGHT] + rest, (PLUS_P, [A]))


class ApartForAllTest(unittest.TestCase):

    def test_as_many_as_the_number(self):
        for editions, tree in groups(162, 120, 5):
            ways = apart_for_all(editions, tree)
            self.assertEqual(len(ways), needed_for_all(editions, tree))
            spots = [path for way in ways for path in between(way)]
            self.assertEqual(len(spots), len(set(spots)))
            needs = {way for edition in editions for way in need_ways(edition, tree)}
            self.assertLessEqual(set(ways), needs)
            for row in (ways, ways[::-1], sorted(ways), random.Random(1).sample(ways, len(ways))):
                self.assertIs(are_apart_for_all(editions, tree, row), True)
            for row in (ways[1:], ways + ways[:1], tuple(ways), ways[:-1] + [((), ())], ways[:-1] + ways[:1]):
                if row != ways and (ways or row == ()):
                    self.assertIs(are_apart_for_all(editions, tree, row), False)
            for chosen in list(combinations(sorted(needs), len(ways)))[:40]:
                spots = [path for way in chosen for path in between(way)]
                self.assertIs(are_apart_for_all(editions, tree, list(chosen)[::-1]), len(spots) == len(set(spots)))

    def test_other_objects(self):
        tree = (PLUS_P, [A, (TIMES_P, [B, C])])
        editions = [TIGHT, FLAT]
        self.assertEqual(apart_for_all(editions, tree), [((1,), (1,))])
        for value in ([((0,), (0,))], [((True,), (1,))], [((1,), (True,))], [[(1,), (1,)]], [((1,), (1,), (1,))], [((), (1,))], [((1,), (1, 0))],
                      [((1,), (1,))] * 2, (((1,), (1,)),), [None], [], None):
            self.assertIs(are_apart_for_all(editions, tree, value), False, value)
        for thing in objects():
            self.assertIs(are_apart_for_all(editions, tree, thing), False)
            self.assertIs(are_apart_for_all([TIGHT], A, thing), isinstance(thing, list) and not thing)
        # Ways of which one goes down into another one, either of them first.
        deep = (PLUS_P, [(NOT_P, [(NOT_P, [A])]), B])
        loose, low = Edition([PLUS, (NOT_P, 5, (4,))], []), Edition([PLUS, (NOT_P, 4, (5,))], [])
        self.assertEqual(need_ways(loose, deep), [((0,), (0,)), ((0,), (0, 0))])
        self.assertEqual(need_ways(low, deep), [((0, 0), (0, 0))])
        self.assertEqual(needed_for_all([loose, low], deep), 2)
        for pair in (([((0, 0), (0, 0)), ((0,), (0,))]), [((0,), (0,)), ((0, 0), (0, 0))]):
            self.assertIs(are_apart_for_all([loose, low], deep, pair), True)
        for pair in ([((0, 0), (0, 0)), ((0,), (0, 0))], [((0,), (0, 0)), ((0, 0), (0, 0))], [((0,), (0, 0)), ((0,), (0,))]):
            self.assertIs(are_apart_for_all([loose, low], deep, pair), False)


class MarksInTest(unittest.TestCase):

    def test_by_hand(self):
        tree = (PLUS_P, [A, (TIMES_P, [B, ("number", "7")])])
        for line, pairs, quotes in (
            ("a + b * 7", {}, []), ("(a + b * 7)", {(): 1}, []), ("((a) + (b * 7))", {(): 1, (0,): 1, (1,): 1}, []),
            ("(('a)) + (((b)) * (7))", {(0,): 2, (1,): 1, (1, 0): 2, (1, 1): 1}, [(0,)]), ("'a + 'b * 7", {}, [(0,), (1, 0)]),
            ("a + ((('b) * 7))", {(1,): 2, (1, 0): 1}, [(1, 0)]), ("((((a))) + b * ((7)))", {(): 1, (0,): 3, (1, 1): 2}, []),
            ("(((((a + b * 7)))))", {(): 5}, []),
        ):
            self.assertEqual(repr(marks_in(TIGHT, cut(line))), repr((tree, pairs, quotes)), line)

    def test_parts_that_begin_or_end_together(self):
        bang = Edition([(("_", "!"), 9, (0,)), NOT], [])
        both = (("_", "!"), [(("_", "!"), [A])])
        self.assertEqual(marks_in(bang, cut("((a)!)!")), (both, {(0,): 1, (0, 0): 1}, []))
        self.assertEqual(marks_in(bang, cut("((a!)!)")), (both, {(): 1, (0,): 1}, []))
        nots = (NOT_P, [(NOT_P, [A])])
        self.assertEqual(marks_in(bang, cut("not (not ('a))")), (nots, {(0,): 1, (0, 0): 1}, [(0, 0)]))
        self.assertEqual(marks_in(bang, cut("(not ((not a)))")), (nots, {(): 1, (0,): 2}, []))
        nil = Edition([(("nil",), 9, ()), PLUS, (("[", "_", "]"), 1, (0,))], ["nil"])
        self.assertEqual(marks_in(nil, cut("((nil)) + 'nil")), ((PLUS_P, [(("nil",), []), ("name", "nil")]), {(0,): 2}, [(1,)]))
        self.assertEqual(marks_in(nil, cut("[(('nil))]")), ((("[", "_", "]"), [("name", "nil")]), {(0,): 2}, [(0,)]))

    def test_a_text_is_told_by_its_tree_pairs_and_quotes(self):
        many = 0
        for edition, text in read_texts(163, 120, 4):
            tree, pairs, quotes = marks_in(edition, text)
            self.assertEqual(("read", tree), naive.read(edition, text))
            self.assertEqual(sum(pairs.values()), text.count("("))
            self.assertEqual(len(quotes), len([token for token in text if token[0] == "'"]))
            self.assertEqual([list(pairs), quotes], [sorted(pairs), sorted(quotes)])
            self.assertEqual(laid(tree, (), pairs, quotes), text)
            many += len(pairs)
        self.assertGreater(many, 150)

    def test_faults(self):
        for line, at in (("a + ", 2), ("(a", 2), ("a)", 1), ("", 0), ("a b", 1), ("let", 1)):
            for call in (marks_in, idle_number, idle_pairs, lambda edition, text: led_price(edition, FLAT, text), lambda edition, text: led_over(edition, FLAT, text),
                         lambda edition, text: is_led_over(edition, FLAT, text, text), lambda edition, text: are_idle_pairs(edition, text, [])):
                with self.assertRaises(Fault) as caught:
                    call(TIGHT, cut(line))
                self.assertEqual(caught.exception.value, at)
        with self.assertRaises(InvalidEdition):
            marks_in(None, ["$"])
        with self.assertRaises(InvalidText):
            marks_in(TIGHT, ("a",))


def laid(tree, path, pairs, quotes):
    if tree[0] == "name":
        text = ["'" + tree[1] if path in quotes else tree[1]]
    elif tree[0] == "number":
        text = [tree[1]]
    else:
        text, below = [], 0
        for item in tree[0]:
            if item == "_":
                text += laid(tree[1][below], path + (below,), pairs, quotes)
                below += 1
            else:
                text.append(item)
    return ["("] * pairs.get(path, 0) + text + [")"] * pairs.get(path, 0)


def put_in(elder, text, many):
    """All texts that are put in the place of one with so many marks."""
    tree, pairs, quotes = marks_in(elder, text)
    every = paths(tree)
    names = [path for path in every if naive_part(tree, path)[0] == "name" and path not in quotes]
    found = []
    for more in product([("pair", path) for path in every] + [("quote", path) for path in names], repeat=many):
        if list(more) == sorted(more) and len({mark for mark in more if mark[0] == "quote"}) == len([mark for mark in more if mark[0] == "quote"]):
            fuller = {path: pairs.get(path, 0) + list(more).count(("pair", path)) for path in every}
            found.append(laid(tree, (), fuller, quotes + [path for kind, path in more if kind == "quote"]))
    return found


def naive_part(tree, path):
    for at in path:
        tree = tree[1][at]
    return tree


class LedOverTest(unittest.TestCase):

    def test_by_hand(self):
        for line, price in (("a + b * c", 1), ("a + (b * c)", 0), ("(a + b) * c", 0), ("(a + b * c)", 1), ("a * b + c", 0), ("a + b * c + d * a", 2),
                            ("a + (((b * c)))", 0), ("not a + b * c", 1), ("let a + b * c in b + a * c", 2), ("a + (b) * (c)", 1)):
            text = cut(line)
            self.assertEqual(led_price(TIGHT, FLAT, text), price, line)
            self.assertIs(is_led_over(TIGHT, FLAT, text, led_over(TIGHT, FLAT, text)), True)
        # A word that is hard now needs a quote, also in brackets; a pair around another name will do.
        for line, price in (("not", 1), ("(not)", 1), ("'not", 0), ("(('not))", 0), ("not + not", 2)):
            self.assertEqual(led_price(TIGHT, RIGHT, cut(line)), price, line)
        self.assertEqual(led_over(TIGHT, RIGHT, cut("(not)")), cut("('not)"))
        minus, less = (("_", "-", "_"), 4, (4, 5)), (("-", "_"), 8, (8,))
        elder, newer = Edition([minus, NOT], []), Edition([minus, less, NOT], [])
        self.assertEqual([led_price(elder, newer, cut(line)) for line in ("not - a", "(not) - a", "'not - a", "a - not", "(not - a) - a")], [1, 0, 0, 0, 1])
        for line, wanted in (("'not - a", True), ("(not) - a", True), ("(not - a)", False), ("('not) - a", False), ("'not - 'a", False), ("not - a", False)):
            self.assertIs(is_led_over(elder, newer, cut("not - a"), cut(line)), wanted, line)

    def test_against_all_texts_that_can_be_put_in(self):
        seen, source = set(), random.Random(164)
        for edition, text in read_texts(165, 150, 4):
            tree = read(edition, text)[1]
            if len(paths(tree)) > 7:
                continue
            newer = with_other_levels(source, edition, 9, source.randint(2, 9))
            words = [word for word in naive.tokens_of(newer) if word.isalpha() and word not in newer.hard() and word in newer.grammar.heads()]
            if words and source.random() < 0.4:
                newer = Edition(newer.forms(), newer.hard() + words[:1])
            price = led_price(edition, newer, text)
            for many in range(min(price, 3) + (price < 2)):
                for other in put_in(edition, text, many):
                    self.assertEqual(naive.read(edition, other), ("read", tree))
                    right = naive.read(newer, other) == ("read", tree)
                    self.assertFalse(right and many < price, (told(edition, newer), text, other))
                    self.assertIs(is_led_over(edition, newer, text, other), right and many == price)
            led = led_over(edition, newer, text)
            self.assertIn(led, put_in(edition, text, price) if price < 3 else [led])
            self.assertIs(is_led_over(edition, newer, text, led), True)
            seen.add(price)
        self.assertLessEqual({0, 1, 2}, seen)

    def test_newer_forms(self):
        many = 0
        for elder, newer in random_pairs(166, 160, 4, 4):
            for text in naive_texts(elder):
                lacking = [pattern for pattern in patterns_in(read(elder, text)[1]) if pattern not in newer.grammar.patterns()]
                if lacking:
                    with self.assertRaises(UnknownForm) as caught:
                        led_over(elder, newer, text)
                    self.assertEqual(caught.exception.value, lacking[0])
                    continue
                led = led_over(elder, newer, text)
                self.assertEqual(naive.read(newer, led), naive.read(elder, text))
                self.assertEqual(naive.read(elder, led), naive.read(elder, text))
                self.assertEqual(led_price(elder, newer, led), 0)
                self.assertEqual(led_over(elder, newer, led), led)
                self.assertIs(is_led_over(elder, newer, text, led), True)
                many += led != text
        self.assertGreater(many, 40)

    def test_the_first_form_that_is_not_there(self):
        text = cut("not a + b * c")
        for forms, first in (([], PLUS_P), ([PLUS], NOT_P), ([PLUS, NOT], TIMES_P)):
            for call in (led_price, led_over, lambda elder, newer, one: is_led_over(elder, newer, one, one)):
                with self.assertRaises(UnknownForm) as caught:
                    call(TIGHT, Edition(forms, []), text)
                self.assertEqual(caught.exception.value, first)
                # What is wrong with the text comes first.
                with self.assertRaises(Fault):
                    call(TIGHT, Edition(forms, []), text + ["+"])

    def test_other_objects(self):
        text = cut("a + ('b) * c")
        led = led_over(TIGHT, FLAT, text)
        self.assertEqual(led, cut("a + (('b) * c)"))
        for line, wanted in (("a + (('b) * c)", True), ("a + ('b * c)", False), ("a + ((b) * c)", False), ("a + ((('b)) * c)", False), ("(a + (('b) * c))", False),
                             ("a + ('b) * c", False), ("(a + ('b)) * c", False), ("a + (('b) * d)", False), ("a + (('b) * c", False), ("", False)):
            self.assertIs(is_led_over(TIGHT, FLAT, text, cut(line)), wanted, line)
        for thing in objects() + [tuple(led), led + [None], [led]]:
            self.assertIs(is_led_over(TIGHT, FLAT, text, thing), False)


def patterns_in(tree):
    if tree[0] in ("name", "number"):
        return []
    return [tree[0]] + [one for part in tree[1] for one in patterns_in(part)]


def naive_texts(edition):
    """Some short texts that an edition reads."""
    tokens = [token for token in naive.tokens_of(edition) if token not in ("(", ")")]
    return [text for text in naive.all_texts(tokens[:5], 4) if read(edition, text)[0] == "read"][-8:]


class IdlePairsTest(unittest.TestCase):

    def test_by_hand(self):
        for line, wanted in (
            ("a + b", []), ("(a + b)", [0]), ("((a)) + b", [0, 1]), ("(a + b) * c", []), ("((a + b)) * c", [1]), ("((a + b) * c)", [0]),
            ("not (not a)", [1]), ("not ((a + b))", [2]), ("not (a + b)", []), ("('a)", [0]), ("(((a)))", [0, 1, 2]),
        ):
            self.assertEqual(idle_pairs(TIGHT, cut(line)), wanted, line)
            self.assertEqual(idle_number(TIGHT, cut(line)), len(wanted))

    def test_each_alone_and_not_together(self):
        edition = Edition([(PLUS_P, 4, (4, 5)), (("f", "_"), 9, (4,)), (("g", "_"), 9, (4,))], [])
        text = cut("(f (g x)) + y")
        self.assertEqual(idle_number(edition, text), 1)
        for value, wanted in (([0], False), ([2], True), ([], False), ([0, 2], False)):
            self.assertIs(are_idle_pairs(edition, text, value), wanted, value)
        # A pair within can go alone, and then the outer one has to stay.
        both = cut("(f (f x)) + y")
        high = Edition([(PLUS_P, 4, (4, 5)), (("f", "_"), 9, (5,)), (("h", "_"), 4, (4,))], [])
        self.assertEqual(idle_number(high, both), 2)
        chain = cut("f (h ((h x))) + y")
        self.assertEqual(idle_pairs(high, chain), [3, 4])

    def test_against_all_lots_of_pairs(self):
        seen = set()
        for edition, text in read_texts(167, 130, 3):
            closed = matched(text)
            if not 1 <= len(closed) <= 7:
                continue
            outcome = naive.read(edition, text)
            right = [list(lot) for size in range(len(closed) + 1) for lot in combinations(sorted(closed), size)
                     if naive.read(edition, without(text, closed, lot)) == outcome]
            most = max(len(lot) for lot in right)
            self.assertEqual(idle_number(edition, text), most)
            self.assertIn(idle_pairs(edition, text), right)
            for size in range(len(closed) + 1):
                for lot in combinations(sorted(closed), size):
                    self.assertIs(are_idle_pairs(edition, text, list(lot)), size == most and list(lot) in right)
            apart = [lot for lot in combinations([lot[0] for lot in right if len(lot) == 1], 2) if list(lot) not in right]
            seen.add(("apart", bool(apart)))
            seen.add(("kept", most < len(closed)))
        self.assertEqual(seen, {("apart", True), ("apart", False), ("kept", True), ("kept", False)})

    def test_lots_to_which_nothing_can_be_added(self):
        # The middle pair is on both ways: without it both others are needed.
        edition = Edition([(PLUS_P, 4, (4, 5)), (("f", "_"), 9, (5,)), (("_", "^", "_"), 6, (0, 4)), (NOT_P, 2, (7,))], ["f", "not"])
        text = cut("(f ((not x) ^ y)) + z")
        tree = read(edition, text)[1]
        self.assertEqual(need_ways(edition, tree), [((0,), (0, 0)), ((0, 0), (0, 0, 0))])
        self.assertEqual(idle_pairs(edition, text), [0, 3])
        for value, wanted in (([0, 3], True), ([2], False), ([0], False), ([3], False), ([0, 2], False), ([2, 3], False)):
            self.assertIs(are_idle_pairs(edition, text, value), wanted, value)
        self.assertEqual([read(edition, without(text, matched(text), lot)) == ("read", tree) for lot in ([2], [0], [3], [0, 2], [2, 3], [0, 3])],
                         [True, True, True, False, False, True])

    def test_other_objects(self):
        text = cut("((a)) + (b)")
        self.assertEqual(idle_pairs(TIGHT, text), [0, 1, 6])
        for value in ([6, 1, 0], [0, 1], [0, 1, 1, 6], [0, 1, 3], [0, 1, 8], [0, True, 6], [False, 1, 6], (0, 1, 6), [0, 1, 6, 7], [0, 1, 60], [-1, 0, 1], [0, 1, "6"], None):
            self.assertIs(are_idle_pairs(TIGHT, text, value), False, value)
        for thing in objects():
            self.assertIs(are_idle_pairs(TIGHT, text, thing), False)
            self.assertIs(are_idle_pairs(TIGHT, ["a"], thing), isinstance(thing, list) and not thing)


def matched(text):
    opened, found = [], {}
    for at, token in enumerate(text):
        if token == "(":
            opened.append(at)
        if token == ")":
            found[opened.pop()] = at
    return found


def without(text, closed, lot):
    gone = set(lot) | {closed[at] for at in lot}
    return [token for at, token in enumerate(text) if at not in gone]
