"""Points 75 to 79: marks, needs and their ways."""

import random
import unittest
from itertools import combinations

from keptreadings.editions import Edition
from keptreadings.errors import InvalidEdition, InvalidMarks, InvalidTree, InvalidWay, UnknownForm
from keptreadings.marks import apart, are_apart, are_least_marks, fewest_marks, kinds, least_marks, marked, need_ways, reads_to, unmet
from keptreadings.reading import read
from keptreadings.tokens import cut
from keptreadings.trees import paths, put_at
from tests import naive
from tests.samples import LET, NOT, PLUS, TIMES, objects, random_editions, snapshot

PLUS_P, TIMES_P, NOT_P = PLUS[0], TIMES[0], NOT[0]
A, B, C, SEVEN = ("name", "a"), ("name", "b"), ("name", "c"), ("number", "7")
SUMS = Edition([PLUS, TIMES, NOT, LET], ["let"])
FN = Edition([(PLUS_P, 4, (4, 5)), (TIMES_P, 6, (6, 7)), (("fn", "_"), 9, (0,))], ["fn"])


def random_tree(source, edition, words, many):
    """A tree of so many forms, as far as there are holes for them."""
    patterns = [form[0] for form in edition.forms()]
    tree = ("name", source.choice(words)) if source.random() < 0.8 else ("number", "1")
    for _ in range(many):
        leaves = [path for path in paths(tree) if part(tree, path)[0] in ("name", "number")]
        if not leaves or not patterns:
            return tree
        pattern = source.choice(patterns)
        below = [("name", source.choice(words)) if source.random() < 0.8 else ("number", "1") for item in pattern if item == "_"]
        tree = put_at(tree, source.choice(leaves), (pattern, below))
    return tree


def part(tree, path):
    for at in path:
        tree = tree[1][at]
    return tree


def random_trees(seed, count, many):
    """Editions with small trees of theirs, whose names are any words."""
    source = random.Random(seed)
    found = []
    for edition in random_editions(seed, count, 4, 4):
        words = ["q"] + [token for token in naive.tokens_of(edition) if token.isalpha()]
        found += [(edition, random_tree(source, edition, words, source.randint(0, many))) for _ in range(3)]
    return found


def between(way):
    """All paths of a way."""
    upper, lower = way
    return [lower[:size] for size in range(len(upper), len(lower) + 1)]


class MarkedTest(unittest.TestCase):

    TREE = (PLUS_P, [A, (NOT_P, [(TIMES_P, [SEVEN, B])])])

    def test_texts(self):
        rows = [
            ([], "a + not 7 * b"), ([()], "( a + not 7 * b )"), ([(0,)], "'a + not 7 * b"), ([(1,)], "a + ( not 7 * b )"), ([(1, 0)], "a + not ( 7 * b )"),
            ([(1, 0, 0)], "a + not ( 7 ) * b"), ([(1, 0, 1)], "a + not 7 * 'b"), ([(), (0,), (1,), (1, 0), (1, 0, 0), (1, 0, 1)], "( 'a + ( not ( ( 7 ) * 'b ) ) )"),
        ]
        for marks, line in rows:
            self.assertEqual(marked(self.TREE, marks), cut(line))
        self.assertEqual(marked(A, []), ["a"])
        self.assertEqual(marked(A, [()]), ["'a"])
        self.assertEqual(marked(SEVEN, [()]), ["(", "7", ")"])
        self.assertEqual(marked((("nil",), []), [()]), ["(", "nil", ")"])
        self.assertEqual(marked((("a", "_", "b", "_", "c"), [A, SEVEN]), [(1,)]), cut("a a b (7) c"))

    def test_a_tree_of_whatever_forms(self):
        self.assertEqual(marked((("x", "!", "_", "y"), [(("_", "?"), [A])]), [(0,)]), cut("x ! (a ?) y"))

    def test_what_are_no_marks(self):
        wrong = [[(), ()], [(1,), (0,)], [(0,), ()], [(2,)], [(0, 0)], [(-1,)], [(True,)], [(False,)], [[0]], [0], ((),), (), None, {}, [None], [(0,), (0,)],
                 [("0",)], "", [(1, 0, 2)], [(10 ** 30,)], [((),)]]
        for marks in wrong + [thing for thing in objects() if snapshot(thing) not in (snapshot([]), snapshot([()]))]:
            calls = [lambda: marked(self.TREE, marks), lambda: reads_to(SUMS, self.TREE, marks), lambda: unmet(SUMS, self.TREE, marks)]
            for call in calls:
                with self.assertRaises(InvalidMarks) as caught:
                    call()
                self.assertIs(caught.exception.value, marks)
            self.assertIs(are_least_marks(SUMS, self.TREE, marks), False)

    def test_errors_in_order(self):
        wrong_trees = [None, ("name", "A"), (PLUS_P, [A]), (PLUS_P, (A, B)), [PLUS_P, [A, B]], ("number", 7), (PLUS_P, [A, None])]
        calls = [lambda edition, tree: reads_to(edition, tree, None), need_ways, lambda edition, tree: unmet(edition, tree, None), fewest_marks, least_marks,
                 lambda edition, tree: are_least_marks(edition, tree, None), apart, lambda edition, tree: are_apart(edition, tree, None),
                 lambda edition, tree: kinds(edition, tree, None)]
        unknown = (PLUS_P, [(("b", "_"), [(("a", "_"), [A])]), (("_", "!"), [A])])
        for tree in wrong_trees:
            with self.assertRaises(InvalidTree) as caught:
                marked(tree, None)
            self.assertIs(caught.exception.value, tree)
            for ask in calls:
                with self.assertRaises(InvalidTree) as caught:
                    ask(SUMS, tree)
                self.assertIs(caught.exception.value, tree)
                with self.assertRaises(InvalidEdition):
                    ask([tree], tree)
        for ask in calls:
            with self.assertRaises(UnknownForm) as caught:
                ask(SUMS, unknown)
            self.assertEqual(caught.exception.value, ("b", "_"))
            with self.assertRaises(InvalidTree):
                ask(SUMS, (PLUS_P, [unknown, None]))


class NeedsTest(unittest.TestCase):

    def told(self, edition, tree, wanted):
        """The ways with their kinds; where there are none, the tree is read without marks."""
        self.assertEqual([(way, kinds(edition, tree, way)) for way in need_ways(edition, tree)], wanted)
        self.assertIs(read(edition, marked(tree, [])) == ("read", tree), wanted == [])

    def test_low(self):
        high = (NOT_P, [(PLUS_P, [A, B])])
        self.told(SUMS, high, [(((0,), (0,)), ["low"])])
        self.told(Edition([(PLUS_P, 8, (4, 9)), NOT], []), high, [])
        self.told(Edition([(PLUS_P, 7, (4, 9)), NOT], []), high, [(((0,), (0,)), ["low"])])
        # On the left edge of a tail, and of the one on it; but not behind a head.
        post = Edition([(("_", "!"), 9, (0,)), (("_", "?"), 3, (0,)), NOT, PLUS], [])
        self.told(post, (NOT_P, [(("_", "!"), [(("_", "?"), [A])])]), [(((0,), (0, 0)), ["low"])])
        self.told(post, (NOT_P, [(("_", "!"), [(("_", "!"), [(("_", "?"), [A])])])]), [(((0,), (0, 0, 0)), ["low"])])
        self.told(post, (NOT_P, [(("_", "!"), [(PLUS_P, [A, B])])]), [(((0,), (0, 0)), ["low"]), (((0, 0), (0, 0)), ["caught"])])
        box = Edition([(("_", "!"), 9, (0,)), (("[", "_", "]"), 9, (0,)), PLUS, NOT], [])
        self.told(box, (NOT_P, [(("_", "!"), [(("[", "_", "]"), [(PLUS_P, [A, B])])])]), [])
        # In a left hole the left edge is no matter.
        self.told(Edition([(("_", "!"), 9, (0,)), (("_", "?"), 3, (0,)), (("_", "^"), 9, (8,))], []),
                  (("_", "^"), [(("_", "!"), [(("_", "?"), [A])])]), [])

    def test_left(self):
        tree = (TIMES_P, [(("_", "!"), [A]), B])
        self.told(Edition([TIMES, (("_", "!"), 5, (0,))], []), tree, [(((0,), (0,)), ["left"])])
        self.told(Edition([TIMES, (("_", "!"), 6, (0,))], []), tree, [])

    def test_caught(self):
        tree = (PLUS_P, [(NOT_P, [A]), B])
        for asked, wanted in ((5, []), (4, [(((0,), (0,)), ["caught"])])):
            self.told(Edition([PLUS, (NOT_P, 8, (asked,))], []), tree, wanted)
        # From its slot, the uppermost one that ends with it, to it.
        deep = (PLUS_P, [(NOT_P, [(NOT_P, [A])]), B])
        self.told(Edition([PLUS, (NOT_P, 4, (4,))], []), deep, [(((0,), (0,)), ["caught"]), (((0,), (0, 0)), ["caught"])])
        # A form that goes on by a token that is no tail token.
        stray = Edition([(("a", "_"), 5, (0,)), (("a", "_", "b"), 5, (0,)), (("f", "_", "b", "_"), 5, (0, 0))], ["a"])
        self.told(stray, (("f", "_", "b", "_"), [(("a", "_"), [C]), C]), [(((0,), (0,)), ["caught"])])
        self.told(stray, (("f", "_", "b", "_"), [(("a", "_", "b"), [C]), C]), [])
        closed = Edition([(("[", "]"), 5, ()), (("[", "]", "b"), 5, ()), (("f", "_", "b"), 5, (0,))], [])
        self.told(closed, (("f", "_", "b"), [(("[", "]"), [])]), [(((0,), (0,)), ["caught"])])
        self.told(closed, (("f", "_", "b"), [(("[", "]", "b"), [])]), [])

    def test_word(self):
        self.told(SUMS, ("name", "let"), [(((), ()), ["word"])])
        self.told(SUMS, ("name", "not"), [])
        self.told(SUMS, ("name", "in"), [])
        self.told(SUMS, (PLUS_P, [("name", "not"), ("name", "let")]), [(((1,), (1,)), ["word"])])
        # A soft word by the token behind it: one that begins a value.
        less = Edition([(("-", "_"), 8, (8,)), (("_", "-", "_"), 4, (4, 5)), NOT], [])
        minus = ("_", "-", "_")
        self.told(less, (minus, [("name", "not"), A]), [(((0,), (0,)), ["word"])])
        self.told(less, (minus, [A, ("name", "not")]), [])
        self.told(Edition([(minus, 4, (4, 5)), NOT], []), (minus, [("name", "not"), A]), [])
        self.told(less, (minus, [(minus, [A, ("name", "not")]), A]), [(((0,), (0, 1)), ["word"])])
        # One that follows it in a head.
        by = Edition([(("go", "to", "_"), 4, (4,)), (("f", "_", "to"), 4, (4,))], [])
        self.told(by, (("f", "_", "to"), [("name", "go")]), [(((0,), (0,)), ["word"])])
        self.told(by, (("f", "_", "to"), [("name", "to")]), [(((0,), (0,)), ["next"])])

    def test_next(self):
        self.told(Edition([NOT, (("_", "by", "_"), 8, (8, 9))], []), (NOT_P, [("name", "by")]), [(((0,), (0,)), ["next"])])
        by = Edition([NOT, (("_", "by", "_"), 8, (8, 9)), (("_", "!"), 9, (9,))], [])
        bang, tree = ("_", "!"), (NOT_P, [(("_", "!"), [(("_", "!"), [("name", "by")])])])
        self.told(by, tree, [(((0,), (0, 0, 0)), ["next"])])
        self.told(by, (NOT_P, [(bang, [(bang, [("name", "bye")])])]), [])
        self.told(by, (NOT_P, [(bang, [SEVEN])]), [])
        # A hard word; a hole that is not right behind the word; a word that begins a form itself.
        self.told(Edition([NOT, (("_", "by", "_"), 8, (8, 9))], ["not"]), (NOT_P, [("name", "by")]), [])
        late = Edition([(("not", "so", "_"), 8, (8,)), (("_", "by", "_"), 8, (8, 9))], [])
        self.told(late, (("not", "so", "_"), [("name", "by")]), [])
        self.told(Edition([NOT, (("_", "by", "_"), 8, (8, 9)), (("by", "_"), 8, (8,))], []), (NOT_P, [("name", "by")]), [])
        twice = Edition([(("if", "_", "then", "_"), 8, (8, 8))], [])
        self.told(twice, (("if", "_", "then", "_"), [("name", "then"), ("name", "then")]), [(((0,), (0,)), ["next"])])

    def test_ways_with_two_kinds(self):
        tree = (TIMES_P, [(PLUS_P, [A, B]), C])
        self.told(FN, tree, [(((0,), (0,)), ["caught", "left"])])
        stray = Edition([(("a", "_"), 5, (0,)), (("a", "_", "b"), 5, (0,)), (("f", "_", "b", "_"), 5, (6, 0))], ["a"])
        self.told(stray, (("f", "_", "b", "_"), [(("a", "_"), [C]), C]), [(((0,), (0,)), ["caught", "low"])])
        # One on the left edge has a way of its own.
        both = Edition([PLUS, TIMES, (("[", "_", "]"), 9, (5,))], [])
        self.told(both, (("[", "_", "]"), [(PLUS_P, [(PLUS_P, [A, B]), C])]), [(((0,), (0,)), ["low"]), (((0,), (0, 0)), ["low"])])

    def test_ways_that_are_none_of_the_needs(self):
        tree = (TIMES_P, [(PLUS_P, [A, B]), C])
        for way in [((1,), (1,)), ((), (0,)), ((0,), (0, 0)), [(0,), (0,)], ((0,),), (0, 0), ((False,), (False,)), ((0,), (False,)), ((False,), (0,)), ((0,), (0,), (0,)), (), None,
                    ([0], [0]), "", ((0,), None)] + objects():
            with self.assertRaises(InvalidWay) as caught:
                kinds(FN, tree, way)
            self.assertIs(caught.exception.value, way)

    def test_each_level(self):
        # The text without marks is read to the tree just if there is no need, whatever the levels.
        for own in range(0, 10, 3):
            for left in range(0, 10, 3):
                for asked in range(0, 10, 3):
                    for other in (2, 5):
                        edition = Edition([(PLUS_P, own, (left, asked)), (TIMES_P, other, (other, other + 1)), (NOT_P, other, (asked,))], [])
                        for tree in ((PLUS_P, [(TIMES_P, [A, B]), C]), (PLUS_P, [A, (TIMES_P, [B, C])]), (PLUS_P, [(PLUS_P, [A, B]), C]), (PLUS_P, [A, (PLUS_P, [B, C])]),
                                     (NOT_P, [(PLUS_P, [A, B])]), (PLUS_P, [(NOT_P, [A]), B]), (TIMES_P, [A, (PLUS_P, [(PLUS_P, [B, C]), A])])):
                            self.assertIs(read(edition, marked(tree, [])) == ("read", tree), need_ways(edition, tree) == [], (edition.forms(), tree))


class UnmetTest(unittest.TestCase):

    def test_the_first_way(self):
        two = (PLUS_P, [(TIMES_P, [C, (PLUS_P, [A, (("fn", "_"), [B])])]), ("number", "1")])
        self.assertEqual(need_ways(FN, two), [((0,), (0, 1, 1)), ((0, 1), (0, 1))])
        for marks, wanted in (([], ((0,), (0, 1, 1))), ([(0,)], ((0, 1), (0, 1))), ([(0, 1)], None), ([(0, 1, 1)], ((0, 1), (0, 1))), ([()], ((0,), (0, 1, 1))),
                              ([(0, 0)], ((0,), (0, 1, 1))), ([(0,), (0, 1)], None), ([(0, 1, 1, 0)], ((0,), (0, 1, 1)))):
            self.assertEqual(unmet(FN, two, marks), wanted, marks)
            self.assertIs(reads_to(FN, two, marks), wanted is None)

    def test_read_just_where_each_way_has_a_mark(self):
        seen = set()
        for edition, tree in random_trees(100, 260, 3):
            every = paths(tree)
            if len(every) > 7:
                continue
            ways = need_ways(edition, tree)
            self.assertEqual(ways, sorted(set(ways)))
            fewest = None
            for size in range(len(every) + 1):
                for marks in combinations(every, size):
                    marks = list(marks)
                    open_ones = [way for way in ways if not set(between(way)) & set(marks)]
                    self.assertEqual(unmet(edition, tree, marks), open_ones[0] if open_ones else None)
                    wanted = naive.read(edition, marked(tree, marks)) == ("read", tree)
                    self.assertIs(reads_to(edition, tree, marks), wanted, (edition.forms(), edition.hard(), tree, marks))
                    self.assertIs(wanted, not open_ones, (edition.forms(), edition.hard(), tree, marks))
                    if wanted and fewest is None:
                        fewest = size
                    self.assertIs(are_least_marks(edition, tree, marks), wanted and size == fewest)
            self.assertEqual(fewest_marks(edition, tree), fewest)
            seen.update((fewest,) + tuple(kinds(edition, tree, way)) for way in ways)
        self.assertEqual({kind for row in seen for kind in row[1:]}, {"low", "left", "caught", "word", "next"})
        self.assertLessEqual({1, 2, 3}, {row[0] for row in seen})


class FewestTest(unittest.TestCase):

    def test_least_marks(self):
        for edition, tree in random_trees(101, 200, 6):
            marks, ways = least_marks(edition, tree), apart(edition, tree)
            self.assertEqual(len(marks), fewest_marks(edition, tree))
            self.assertIs(are_least_marks(edition, tree, marks), True)
            self.assertIs(reads_to(edition, tree, marks), True)
            self.assertEqual(len(ways), len(marks))
            self.assertIs(are_apart(edition, tree, ways), True)
            spots = [path for way in ways for path in between(way)]
            self.assertEqual(len(spots), len(set(spots)))
            self.assertLessEqual(set(ways), set(need_ways(edition, tree)))
            for other in (marks[:-1], marks[1:], marks[::-1], marks + marks[-1:], tuple(marks)):
                if other != marks:
                    self.assertIs(are_least_marks(edition, tree, other), False)
            for other in (ways[:-1], ways[1:], ways[::-1], ways + ways[-1:], tuple(ways)):
                if other != ways:
                    self.assertIs(are_apart(edition, tree, other), False)

    def test_other_marks(self):
        two = (PLUS_P, [(PLUS_P, [C, (PLUS_P, [A, B])]), (PLUS_P, [A, B])])
        ways = need_ways(SUMS, two)
        self.assertEqual(ways, [((0, 1), (0, 1)), ((1,), (1,))])
        self.assertIs(are_least_marks(SUMS, two, [(0, 1), (1,)]), True)
        for marks in ([(0,), (1,)], [(0, 1)], [(1,), (0, 1)], [(0, 1), (1,), (1, 0)], [], [()], [[0, 1], [1]], [(0, True), (1,)], ((0, 1), (1,)), None):
            self.assertIs(are_least_marks(SUMS, two, marks), False, marks)
        self.assertIs(are_apart(SUMS, two, ways), True)
        for value in (ways[::-1], ways[:1], ways + [((0,), (0,))], [((0, True), (0, True)), ((True,), (True,))], [ways[0], ((True,), (1,))], [ways[0], ((1,), (True,))], [list(way) for way in ways], tuple(ways),
                      [ways[0], ways[0]], [((0, 1), (0, 1)), ((1,), (1, 0))], [None, ways[1]], None, [ways]):
            self.assertIs(are_apart(SUMS, two, value), False, value)
        # Any other right one.
        tree = (PLUS_P, [(NOT_P, [(NOT_P, [A])]), B])
        edition = Edition([PLUS, (NOT_P, 4, (4,))], [])
        for marks in ([(0,)], [(0, 0)]):
            self.assertIs(are_least_marks(edition, tree, marks), marks == [(0,)])
        chain = Edition([PLUS, (NOT_P, 8, (4,)), (("f", "_"), 8, (5,))], [])
        tree = (PLUS_P, [(("f", "_"), [(NOT_P, [A])]), B])
        self.assertEqual(need_ways(chain, tree), [((0,), (0, 0))])
        for marks, wanted in (([(0,)], True), ([(0, 0)], True), ([(0, 0, 0)], False), ([(0,), (0, 0)], False)):
            self.assertIs(are_least_marks(chain, tree, marks), wanted)

    def test_any_object(self):
        tree = (TIMES_P, [(PLUS_P, [A, B]), C])
        for thing in objects():
            self.assertIs(are_least_marks(FN, tree, thing), False)
            self.assertIs(are_apart(FN, tree, thing), False)
            self.assertIs(are_least_marks(FN, A, thing), isinstance(thing, list) and not thing)
            self.assertIs(are_apart(FN, A, thing), isinstance(thing, list) and not thing)

    def test_ways_that_meet_are_not_apart(self):
        for edition, tree in random_trees(102, 150, 5):
            ways = need_ways(edition, tree)
            many = fewest_marks(edition, tree)
            for chosen in list(combinations(ways, many))[:60]:
                spots = [path for way in chosen for path in between(way)]
                self.assertIs(are_apart(edition, tree, list(chosen)), len(spots) == len(set(spots)))

    def test_trees_of_forty_nodes(self):
        deep, wide, leans = A, A, A
        for at in range(39):
            deep = ((NOT_P, [deep]), (("fn", "_"), [deep]))[at % 2]
        edition = Edition([(PLUS_P, 4, (4, 5)), (("fn", "_"), 3, (4,)), NOT], [])
        for _ in range(19):
            wide, leans = (PLUS_P, [wide, B]), (PLUS_P, [B, leans])
        for tree in (deep, wide, leans):
            self.assertGreaterEqual(len(paths(tree)), 39)
            marks = least_marks(edition, tree)
            self.assertIs(reads_to(edition, tree, marks), True)
            self.assertIs(are_least_marks(edition, tree, marks), True)
            self.assertIs(are_apart(edition, tree, apart(edition, tree)), True)
            self.assertIs(are_least_marks(edition, tree, marks + [paths(tree)[-1]]), False)
            self.assertIs(are_apart(edition, tree, apart(edition, tree)[1:]), not marks)
            for way in need_ways(edition, tree):
                self.assertNotEqual(kinds(edition, tree, way), [])
        self.assertEqual([fewest_marks(edition, tree) for tree in (deep, wide, leans)], [19, 0, 18])
