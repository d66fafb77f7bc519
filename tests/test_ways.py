"""Points 85 to 88: ways of two editions, unheld ways, bare texts."""

import random
import unittest
from itertools import product

from keptreadings.editions import Edition
from keptreadings.errors import InvalidEdition, InvalidText, InvalidTree, InvalidWay, UnknownForm
from keptreadings.kept import is_kept_text, kept
from keptreadings.marks import need_ways
from keptreadings.reading import read
from keptreadings.tokens import cut
from keptreadings.trees import paths
from keptreadings.ways import all_but, are_held, bare_parting, is_bare, is_bare_parting, is_unheld_way, unheld, unheld_way
from tests import naive, naive_pairs
from tests.pairs import random_pairs, told
from tests.samples import LET, NOT, PLUS, TIMES, objects
from tests.test_marks import between, part, random_tree

PLUS_P, TIMES_P, NOT_P = PLUS[0], TIMES[0], NOT[0]
A, B, ZERO = ("name", "a"), ("name", "b"), ("number", "0")
HERE = Edition([PLUS, TIMES, NOT, LET], ["let"])
FLAT = Edition([PLUS, (TIMES_P, 4, (4, 5)), NOT, LET], ["let"])


def grown_pairs(seed, count, many, height):
    """Pairs of which the newer one has all forms of the elder."""
    pairs = random_pairs(seed, count, many, height)
    return [(elder, newer) for elder, newer in pairs if {form[0] for form in elder.forms()} <= {form[0] for form in newer.forms()}]


def all_trees(elder, leaves, most, cap):
    """The trees of an edition by how many nodes they have, not more than so many of each."""
    found = {1: leaves + [(pattern, []) for pattern, _, _ in elder.forms() if "_" not in pattern]}
    for many in range(2, most + 1):
        found[many] = []
        for pattern, _, _ in elder.forms():
            for sizes in product(range(1, many), repeat=pattern.count("_")):
                if sizes and sum(sizes) == many - 1:
                    found[many] += [(pattern, list(parts)) for parts in product(*[found[size] for size in sizes])][:cap]
    return found


def words_of(elder, newer):
    return [token for token in naive_pairs.tokens_of(elder, newer) if token.isalpha()]


def parts_somewhere(elder, newer, tree):
    """Whether some part of a tree without marks parts the two: so the ways are told by texts alone."""
    for lower in paths(tree):
        for size in range(len(lower) + 1):
            text = marked_but(tree, (), between((lower[:size], lower)))
            if naive.read(elder, text) == ("read", tree) != naive.read(newer, text):
                return True
    return False


def marked_but(tree, path, bare):
    """The text of a tree with marks at all paths but some."""
    if tree[0] == "name":
        return [tree[1]] if path in bare else ["'" + tree[1]]
    text, below = [], 0
    for item in tree[0] if tree[0] != "number" else (tree[1],):
        if item == "_":
            text += marked_but(tree[1][below], path + (below,), bare)
            below += 1
        else:
            text.append(item)
    return text if path in bare else ["("] + text + [")"]


class UnheldTest(unittest.TestCase):

    def test_by_hand(self):
        sums = (PLUS_P, [A, (TIMES_P, [B, A])])
        self.assertEqual([unheld(HERE, FLAT, sums), unheld(FLAT, HERE, sums), unheld(HERE, HERE, sums)], [[((1,), (1,))], [], []])
        other = (TIMES_P, [(PLUS_P, [A, B]), A])
        self.assertEqual([unheld(HERE, FLAT, other), unheld(FLAT, HERE, other)], [[], [((0,), (0,))]])
        # A way that holds a shorter one of the elder is held.
        deep = (PLUS_P, [(NOT_P, [(NOT_P, [A])]), B])
        loose, tight = Edition([PLUS, (NOT_P, 5, (4,))], []), Edition([PLUS, (NOT_P, 4, (5,))], [])
        self.assertEqual(unheld(tight, loose, deep), [((0,), (0,))])
        self.assertEqual(unheld(loose, tight, deep), [((0, 0), (0, 0))])
        low = Edition([PLUS, (NOT_P, 8, (5,)), (("f", "_"), 8, (4,))], [])
        chain = (PLUS_P, [(NOT_P, [(("f", "_"), [A])]), B])
        self.assertEqual(need_ways(low, chain), [((0,), (0, 0))])
        lower = Edition([PLUS, (NOT_P, 8, (8,)), (("f", "_"), 7, (5,))], [])
        self.assertEqual(need_ways(lower, chain), [((0, 0), (0, 0))])
        self.assertEqual([unheld(lower, low, chain), unheld(low, lower, chain)], [[], [((0, 0), (0, 0))]])
        hard = Edition([PLUS, TIMES, NOT, LET], ["let", "not"])
        self.assertEqual([unheld(HERE, hard, (PLUS_P, [A, ("name", "not")])), unheld(hard, HERE, ("name", "not"))], [[((1,), (1,))], []])

    def test_just_those_within_which_there_is_none(self):
        source, many = random.Random(170), [0, 0]
        for elder, newer in grown_pairs(171, 150, 4, 4):
            for _ in range(3):
                tree = random_tree(source, elder, words_of(elder, newer) or ["q"], 4)
                olds = [set(between(way)) for way in need_ways(elder, tree)]
                wanted = [way for way in need_ways(newer, tree) if not any(old <= set(between(way)) for old in olds)]
                self.assertEqual(unheld(elder, newer, tree), wanted)
                many[bool(wanted)] += 1
        self.assertGreater(min(many), 10)

    def test_held_just_where_all_texts_are_kept(self):
        seen = set()
        for elder, newer in grown_pairs(172, 220, 4, 4):
            self.assertIs(are_held(elder, newer), kept(elder, newer), told(elder, newer))
            self.assertIs(unheld_way(elder, newer) is None, kept(elder, newer), told(elder, newer))
            same = [form[0] for form in elder.forms()] == [form[0] for form in newer.forms()]
            seen.add((are_held(elder, newer), same, elder.hard() == newer.hard()))
        self.assertEqual(len(seen), 8)

    def test_the_newer_lacks_forms(self):
        elder, newer = Edition([PLUS, TIMES, NOT], []), Edition([NOT, LET], [])
        calls = [lambda one, other: unheld(one, other, None), are_held, unheld_way, lambda one, other: is_unheld_way(one, other, None),
                 lambda one, other: is_bare(one, other, None), bare_parting, lambda one, other: is_bare_parting(one, other, None)]
        for call in calls:
            with self.assertRaises(UnknownForm) as caught:
                call(elder, newer)
            self.assertEqual(caught.exception.value, TIMES_P)
            for one, other, wrong in ((None, ["x"], None), (elder, ["x"], ["x"]), ("", elder, "")):
                with self.assertRaises(InvalidEdition) as caught:
                    call(one, other)
                self.assertEqual(caught.exception.value, wrong)
        with self.assertRaises(UnknownForm) as caught:
            are_held(Edition([PLUS, NOT], []), Edition([LET], []))
        self.assertEqual(caught.exception.value, PLUS_P)
        for call in (lambda tree: unheld(elder, HERE, tree), lambda tree: all_but(elder, tree, None)):
            with self.assertRaises(UnknownForm) as caught:
                call((PLUS_P, [A, (LET[0], [A, (("z",), [])])]))
            self.assertEqual(caught.exception.value, LET[0])
            with self.assertRaises(InvalidTree):
                call((PLUS_P, [A]))


class UnheldWayTest(unittest.TestCase):

    def test_fewest_nodes_against_all_trees(self):
        sizes = {}
        for elder, newer in grown_pairs(173, 260, 3, 3) + grown_pairs(174, 60, 4, 4):
            found = unheld_way(elder, newer)
            if found is None:
                trees = all_trees(elder, [("name", word) for word in words_of(elder, newer)] + [ZERO], 3, 300)
                self.assertFalse(any(unheld(elder, newer, tree) for many in trees for tree in trees[many][:150]))
                continue
            tree, way = found
            self.assertIn(way, unheld(elder, newer, tree))
            self.assertIs(is_unheld_way(elder, newer, found), True)
            self.assertIs(parts_somewhere(elder, newer, tree), True)
            size = len(paths(tree))
            sizes[size] = sizes.get(size, 0) + 1
            trees = all_trees(elder, [("name", word) for word in words_of(elder, newer)] + [ZERO], min(size - 1, 4), 1500)
            for many in trees:
                if many < size:
                    for other in trees[many]:
                        self.assertEqual(unheld(elder, newer, other), [], (told(elder, newer), found))
                    for other in trees[many][::7]:
                        self.assertIs(parts_somewhere(elder, newer, other), False)
        self.assertLessEqual({1, 2, 3, 4, 5}, set(sizes))

    def test_by_hand(self):
        for elder, newer, many in (
            (HERE, Edition([PLUS, TIMES, NOT, LET], ["let", "not"]), 1), (HERE, FLAT, 5),
            (Edition([NOT, (("_", "!"), 5, (0,))], []), Edition([(NOT_P, 4, (8,)), (("_", "!"), 5, (5,))], []), 3),
            # A token begins a value no more behind a soft word.
            (Edition([NOT], []), Edition([NOT, (("_", "by", "_"), 8, (8, 9))], []), 2),
            # What catches the token is too low for the hole, but not for the one of a form between.
            (Edition([(("_", "?"), 5, (0,)), (("f", "_"), 3, (6,)), (("g", "_"), 9, (2,)), (("[", "_", "]"), 9, (3,))], ["f", "g"]),
             Edition([(("_", "?"), 6, (0,)), (("f", "_"), 3, (6,)), (("g", "_"), 9, (2,)), (("[", "_", "]"), 9, (3,))], ["f", "g"]), 3),
        ):
            tree, way = unheld_way(elder, newer)
            self.assertEqual(len(paths(tree)), many, tree)
            self.assertIn(way, unheld(elder, newer, tree))

    def test_a_form_between(self):
        # f alone is too low for the left hole in both; in g it may stand there, and catches the token now.
        forms = [(PLUS_P, 2, (9, 9)), (("g", "_"), 9, (3,))]
        elder, newer = Edition(forms + [(("f", "_"), 4, (3,))], []), Edition(forms + [(("f", "_"), 4, (2,))], [])
        self.assertEqual(unheld_way(elder, newer), ((PLUS_P, [(("g", "_"), [(("f", "_"), [ZERO])]), ZERO]), ((0,), (0, 0))))
        direct = (PLUS_P, [(("f", "_"), [ZERO]), ZERO])
        self.assertEqual([need_ways(elder, direct), need_ways(newer, direct), unheld(elder, newer, direct)], [[((0,), (0,))]] * 2 + [[]])
        # By two of them, if one alone does not do.
        steps = [(PLUS_P, 2, (9, 9)), (("g", "_"), 9, (6,)), (("h", "_", "k", "_"), 6, (0, 3))]
        elder, newer = Edition(steps + [(("f", "_"), 4, (3,))], []), Edition(steps + [(("f", "_"), 4, (2,))], [])
        tree, way = unheld_way(elder, newer)
        self.assertEqual((len(paths(tree)), way), (7, ((0,), (0, 0, 1))))
        # A tail on the left edge, whose own left hole lets a form by that would not be read in the outer one.
        box = [(("[", "_", "]"), 9, (5,)), (("_", "!"), 7, (0,)), (("a", "_"), 6, (6,))]
        elder, newer = Edition(box, ["a"]), Edition(box[:2] + [(("a", "_"), 4, (6,))], ["a"])
        tree, way = unheld_way(elder, newer)
        self.assertEqual((len(paths(tree)), way), (3, ((0,), (0,))))
        caught = [(("[", "_", "]"), 9, (5,)), (("_", "!"), 7, (0,)), (("a", "_"), 6, (8,)), (("a", "_", "]"), 6, (8,))]
        elder, newer = Edition(caught, ["a"]), Edition(caught[:2] + [(("a", "_"), 4, (8,)), (("a", "_", "]"), 4, (8,))], ["a"])
        # Right ahead of the bracket the form would go on; behind the tail's token it is too low for the hole.
        tree, way = unheld_way(elder, newer)
        self.assertEqual((tree, way), ((("[", "_", "]"), [(("a", "_", "]"), [ZERO])]), ((0,), (0,))))
        wide = ("a", "_", "]", "_", ";", "_")
        elder = Edition(caught[:3] + [(wide, 6, (8, 6, 6))], ["a"])
        newer = Edition(caught[:2] + [(("a", "_"), 4, (8,)), (wide, 4, (8, 6, 6))], ["a"])
        self.assertEqual(unheld_way(elder, newer), ((("[", "_", "]"), [(("_", "!"), [(("a", "_"), [ZERO])])]), ((0,), (0, 0))))

    def test_other_objects(self):
        sums = (PLUS_P, [A, (TIMES_P, [B, A])])
        big = (NOT_P, [(LET[0], [sums, (PLUS_P, [("number", "7"), A])])])
        self.assertIs(is_unheld_way(HERE, FLAT, (sums, ((1,), (1,)))), True)
        self.assertIs(is_unheld_way(HERE, FLAT, (big, ((0, 0, 1), (0, 0, 1)))), True)
        for value in ((sums, ((0,), (0,))), (sums, ((), (1,))), [sums, ((1,), (1,))], (sums, [(1,), (1,)]), (sums, ((True,), (True,))), (sums, ((1,), (True,))),
                      (sums, ([1], [1])), (sums,), (sums, ((1,), (1,)), None), (big, ((1,), (1,))), ((PLUS_P, [A, (("z", "_"), [B])]), ((1,), (1,))),
                      ((PLUS_P, (A, (TIMES_P, [B, A]))), ((1,), (1,))), (None, None), (A, ((), ())), (((1,), (1,)), sums)):
            self.assertIs(is_unheld_way(HERE, FLAT, value), False, value)
        # A way of the newer edition that is held.
        low = (TIMES_P, [(PLUS_P, [A, B]), A])
        self.assertIn(((0,), (0,)), need_ways(Edition([PLUS, (TIMES_P, 6, (7, 7)), NOT, LET], ["let"]), low))
        self.assertIs(is_unheld_way(HERE, Edition([PLUS, (TIMES_P, 6, (7, 7)), NOT, LET], ["let"]), (low, ((0,), (0,)))), False)
        for thing in objects():
            self.assertIs(is_unheld_way(HERE, FLAT, thing), False)
            self.assertIs(is_unheld_way(HERE, FLAT, (sums, thing)), False)
            self.assertIs(is_unheld_way(HERE, FLAT, (thing, ((1,), (1,)))), False)
        hard = Edition([PLUS, TIMES, NOT, LET], ["let", "not"])
        self.assertIs(is_unheld_way(HERE, hard, (("name", "not"), ((), ()))), True)
        self.assertIs(is_unheld_way(HERE, hard, (("name", "let"), ((), ()))), False)


class AllButTest(unittest.TestCase):

    TREE = (PLUS_P, [A, (NOT_P, [(TIMES_P, [("number", "7"), B])])])

    def test_by_hand(self):
        for way, wanted in (
            (((), ()), "'a + (not ((7) * 'b))"), (((1,), (1,)), "('a + not ((7) * 'b))"), (((), (1,)), "'a + not ((7) * 'b)"),
            (((1,), (1, 0)), "('a + not (7) * 'b)"), (((), (1, 0, 0)), "'a + not 7 * 'b"), (((0,), (0,)), "(a + (not ((7) * 'b)))"),
            (((1, 0, 1), (1, 0, 1)), "('a + (not ((7) * b)))"), (((), (1, 0, 1)), "'a + not (7) * b"),
        ):
            self.assertEqual(all_but(HERE, self.TREE, way), cut(wanted), way)
        self.assertEqual([all_but(HERE, A, ((), ())), all_but(HERE, ("number", "7"), ((), ()))], [["a"], ["7"]])

    def test_what_is_no_way(self):
        for way in (((1,), (0,)), ((1, 0), (1,)), ((2,), (2,)), ((), (1, 0, 2)), [(1,), (1,)], ((1,), [1]), ([1], (1,)), ((1,),), ((1,), (1,), (1,)), ((True,), (True,)),
                    ((), (True,)), ((0, 0), (0, 0)), (1, 1), None, ((1, 0), (1, 1)), "ab", ((1,), None)):
            with self.assertRaises(InvalidWay) as caught:
                all_but(HERE, self.TREE, way)
            self.assertIs(caught.exception.value, way)

    def test_read_just_where_no_way_lies_within(self):
        source, many = random.Random(175), [0, 0]
        for elder, newer in random_pairs(176, 90, 4, 4):
            tree = random_tree(source, elder, words_of(elder, newer) or ["q"], 3)
            ways = [set(between(way)) for way in need_ways(elder, tree)]
            for lower in paths(tree):
                for size in range(len(lower) + 1):
                    way = (lower[:size], lower)
                    text = all_but(elder, tree, way)
                    self.assertEqual(text, marked_but(tree, (), between(way)))
                    wanted = not any(other <= set(between(way)) for other in ways)
                    self.assertIs(naive.read(elder, text) == ("read", tree), wanted)
                    many[wanted] += 1
        self.assertGreater(min(many), 50)

    def test_for_an_unheld_way_the_two_part(self):
        for elder, newer in grown_pairs(177, 120, 4, 4):
            found = unheld_way(elder, newer)
            if found is not None:
                text = all_but(elder, found[0], found[1])
                self.assertEqual(naive.read(elder, text), ("read", found[0]))
                self.assertNotEqual(naive.read(newer, text), ("read", found[0]))


class BareTest(unittest.TestCase):

    def test_what_is_bare(self):
        newer = Edition([PLUS, TIMES, NOT, LET, (("by", "_"), 1, (1,))], ["let"])
        for line, wanted in (("a + b", False), ("a + a", True), ("a + not", True), ("a + by * let in", True), ("(a)", False), ("a )", False), ("'a + a", False), ("'not", False),
                             ("a + 7", False), ("", True), ("+ + *", True), ("by in in", True), ("a by a ? a", True), ("b ? c", False)):
            self.assertIs(is_bare(HERE, newer, cut(line)), wanted, line)
        # A word that one of both alone has fixed is none of the others.
        self.assertIs(is_bare(HERE, HERE, cut("a + by")), False)
        self.assertIs(is_bare(Edition([PLUS], []), HERE, cut("a + let + not")), True)
        for wrong in objects():
            if not (isinstance(wrong, list) and all(isinstance(token, str) and cut_or_none(token) for token in wrong)):
                with self.assertRaises(InvalidText) as caught:
                    is_bare(HERE, newer, wrong)
                self.assertIs(caught.exception.value, wrong)

    def test_parting_ones(self):
        many = [0, 0]
        for elder, newer in grown_pairs(178, 200, 4, 4):
            text = bare_parting(elder, newer)
            self.assertIs(text is None, kept(elder, newer))
            many[text is None] += 1
            if text is not None:
                self.assertIs(is_bare(elder, newer, text), True)
                self.assertIs(naive_pairs.broken(elder, newer, text), True)
                self.assertIs(is_bare_parting(elder, newer, text), True)
                for other in (text[1:], text[:-1], text + text, ["("] + text + [")"], tuple(text), [text]):
                    right = isinstance(other, list) and all(isinstance(token, str) for token in other) and is_bare(elder, newer, other)
                    self.assertIs(is_bare_parting(elder, newer, other), right and naive_pairs.broken(elder, newer, other))
        self.assertGreater(min(many), 40)

    def test_other_objects(self):
        for line, wanted in (("x + x * x", True), ("a + a * a", True), ("a + b * a", False), ("a + a * 'a", False), ("(a + a * a)", False), ("a + 1 * a", False),
                             ("a * a + a", False), ("a + a", False), ("a + not * not", True), ("a + a * a + a * a", True), ("a + a * let", False)):
            self.assertIs(is_bare_parting(HERE, FLAT, cut(line)), wanted, line)
        for thing in objects():
            self.assertIs(is_bare_parting(HERE, FLAT, thing), False)
            self.assertIs(is_bare_parting(HERE, HERE, thing), False)
        hard = Edition([PLUS, TIMES, NOT, LET], ["let", "not"])
        self.assertEqual(bare_parting(HERE, hard), ["not"])
        self.assertIs(is_bare_parting(HERE, hard, ["not"]), True)

    def test_of_two_unlike_broken_texts(self):
        self.assertIs(is_kept_text(HERE, FLAT, cut("a + b * c")), False)
        self.assertEqual(read(HERE, bare_parting(HERE, FLAT))[0], "read")
        self.assertEqual(part(read(HERE, cut("a + a * a"))[1], (1, 0)), A)


def cut_or_none(token):
    return naive_pairs.judges.token(token)


class CallsAgainTest(unittest.TestCase):

    def test_in_another_order(self):
        pairs = grown_pairs(179, 40, 4, 4)
        calls = [(call, pair) for pair in pairs for call in (are_held, unheld_way, bare_parting)]
        first = [repr(call(*pair)) for call, pair in calls]
        again = [repr(call(*[Edition(one.forms(), one.hard()) for one in pair])) for call, pair in reversed(calls)]
        self.assertEqual(first, again[::-1])
