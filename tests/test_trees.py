"""Points 30 to 32: trees, paths and bare texts."""

import random
import unittest

from keptreadings.editions import Edition
from keptreadings.errors import InvalidEdition, InvalidPath, InvalidTree, UnknownForm
from keptreadings.reading import read
from keptreadings.trees import bare_text, first_parted, forms_in, is_tree, part_at, paths, put_at
from keptreadings.trees import require_tree_of, words_in, yield_parts
from tests import judges
from tests.samples import LET, NOT, PLUS, TIMES, objects, random_editions, random_pattern, snapshot, spoil

P, T, N, L = PLUS[0], TIMES[0], NOT[0], LET[0]
A, B, SEVEN = ("name", "a"), ("name", "b"), ("number", "7")
HERE = Edition([PLUS, TIMES, LET, NOT, (("nil",), 9, ()), (("_", "!"), 9, (9,))], ["nil"])


def big():
    """A tree with forms of all kinds, new with each call."""
    return (L, [(P, [("name", "let"), (("nil",), [])]), (T, [(N, [("name", "a")]), (("_", "!"), [SEVEN])])])


def random_tree(source, patterns, deep):
    fitting = [pattern for pattern in patterns if deep > 0 or "_" not in pattern]
    if not fitting or source.random() < 0.35:
        return source.choice([("name", source.choice("abc")), ("number", source.choice("07"))])
    pattern = source.choice(fitting)
    return (pattern, [random_tree(source, patterns, deep - 1) for item in pattern if item == "_"])


def walk(tree):
    """The parts of a tree by their paths, by going down."""
    found = {(): tree}
    if isinstance(tree[0], tuple):
        for at, part in enumerate(tree[1]):
            for path, below in walk(part).items():
                found[(at,) + path] = below
    return found


class IsTreeTest(unittest.TestCase):

    def test_trees_of_an_edition(self):
        for tree in (A, SEVEN, ("name", "let"), ("name", "in"), ("number", "0"), (("nil",), []), big()):
            self.assertIs(is_tree(HERE, tree), True)

    def test_a_form_that_the_edition_lacks(self):
        for path in paths(big()):
            tree = put_at(big(), path, (("_", "-", "_"), [A, B]))
            self.assertIs(is_tree(HERE, tree), False)
            with self.assertRaises(UnknownForm) as caught:
                require_tree_of(HERE, tree)
            self.assertEqual(caught.exception.value, ("_", "-", "_"))
        self.assertIs(is_tree(Edition([], []), big()), False)
        self.assertIs(is_tree(Edition([], []), A), True)

    def faulty(self):
        return [
            (P, [A]), (P, [A, B, A]), (P, []), (P, (A, B)), (P, [A, None]), (P, {}), [P, [A, B]], (P, [A, B], 1), (P,), (),
            (list(P), [A, B]), (("_", "_"), [A, B]), (("_",), [A]), ((), []), (("1",), []), ("a", []), ("+", []),
            ("name", "+"), ("name", "A"), ("name", ""), ("name", "'a"), ("name", "1"), ("name", "abcdefghi"), ("name", None),
            ("name", ["a"]), ("name", ("a",)), ("name",), ("name", "a", "b"), ["name", "a"], ("names", "a"),
            ("number", "a"), ("number", "00"), ("number", "07"), ("number", 7), ("number", "123456789"), ("number", ""),
            ("number", "-1"), None, 7, True, "a", [A], (A,), (A, B), {"name": "a"}, HERE, (P, [A, HERE]), (P, [A, [B]]),
            ("name", True), ("nil", []), (("nil",), ()), (("nil",), [A]), (True, []), (None, [A]),
        ]

    def test_one_fault_at_any_path(self):
        for fault in self.faulty():
            self.assertIs(is_tree(HERE, fault), False, fault)
            for path in paths(big()):
                tree = self.with_fault(big(), path, fault)
                self.assertIs(is_tree(HERE, tree), False)
                for ask in (paths, bare_text, forms_in, words_in, yield_parts):
                    with self.assertRaises(InvalidTree) as caught:
                        ask(tree)
                    self.assertIs(caught.exception.value, tree)

    def with_fault(self, tree, path, fault):
        if not path:
            return fault
        trees = list(tree[1])
        trees[path[0]] = self.with_fault(trees[path[0]], path[1:], fault)
        return (tree[0], trees)

    def test_no_tree_ahead_of_unknown_forms(self):
        lost = (P, [(("gone", "_"), [A]), (("off",), [])])
        wrong = (P, [(("gone", "_"), [A]), ("name", "A")])
        with self.assertRaises(InvalidTree) as caught:
            require_tree_of(HERE, wrong)
        self.assertIs(caught.exception.value, wrong)
        # The first one by ascending paths, the least one or the uppermost one as it may be.
        with self.assertRaises(UnknownForm) as caught:
            require_tree_of(HERE, lost)
        self.assertEqual(caught.exception.value, ("gone", "_"))
        with self.assertRaises(UnknownForm) as caught:
            require_tree_of(HERE, (("z", "_"), [lost]))
        self.assertEqual(caught.exception.value, ("z", "_"))
        with self.assertRaises(UnknownForm) as caught:
            require_tree_of(Edition([NOT], []), (N, [(P, [(T, [A, B]), (L, [A, B])])]))
        self.assertEqual(caught.exception.value, P)
        with self.assertRaises(UnknownForm) as caught:
            require_tree_of(Edition([PLUS], []), (P, [(T, [(N, [A]), B]), (L, [A, B])]))
        self.assertEqual(caught.exception.value, T)

    def test_any_object(self):
        for thing in objects():
            patterns = [form[0] for form in HERE.forms()]
            wanted = judges.tree(thing) and all(
                isinstance(part[0], str) or part[0] in patterns for part in walk(thing).values())
            self.assertIs(is_tree(HERE, thing), wanted, thing)
            if not isinstance(thing, Edition):
                with self.assertRaises(InvalidEdition) as caught:
                    is_tree(thing, thing)
                self.assertIs(caught.exception.value, thing)

    def test_what_is_read_is_a_tree(self):
        text = ["let", "a", "+", "b", "in", "not", "nil", "!"]
        self.assertIs(is_tree(Edition([PLUS, LET], []), read(Edition([PLUS, LET], []), text[:6])[1]), True)


class PathsTest(unittest.TestCase):

    def test_paths_ascend(self):
        self.assertEqual(paths(A), [()])
        self.assertEqual(paths((("nil",), [])), [()])
        self.assertEqual(paths(big()), [
            (), (0,), (0, 0), (0, 1), (1,), (1, 0), (1, 0, 0), (1, 1), (1, 1, 0)])

    def test_every_path(self):
        for path, part in walk(big()).items():
            self.assertEqual(part_at(big(), path), part)
            for other in (A, SEVEN, big()):
                told = put_at(big(), path, other)
                self.assertEqual(part_at(told, path), other)
                before, behind = walk(big()), walk(told)
                for place in before:
                    if place[:len(path)] != path and path[:len(place)] != place:
                        self.assertEqual(before[place], behind[place])
                    if path[:len(place)] == place and place != path:
                        self.assertEqual(before[place][0], behind[place][0])
        self.assertEqual(put_at(A, (), B), B)
        self.assertEqual(put_at((P, [A, B]), (1,), (P, [B, A])), (P, [A, (P, [B, A])]))

    def test_no_path(self):
        wrong = [(2,), (0, 2), (0, 0, 0), (0, 1, 0), (-1,), (True,), (False,), (1, True), (0, False), [0], [], 0, None, "",
                 ("0",), ((0,),), (None,), (10 ** 30,), {}, (1, 0, 0, 0), (1.0,)]
        for path in wrong:
            with self.assertRaises(InvalidPath) as caught:
                part_at(big(), path)
            self.assertIs(caught.exception.value, path)
            with self.assertRaises(InvalidPath) as caught:
                put_at(big(), path, None)
            self.assertIs(caught.exception.value, path)
        for thing in objects():
            if not (isinstance(thing, tuple) and thing in ((), (1,)) and snapshot(thing) in (snapshot(()), snapshot((1,)))):
                with self.assertRaises(InvalidPath) as caught:
                    part_at(big(), thing)
                self.assertIs(caught.exception.value, thing)

    def test_errors_by_the_order_of_arguments(self):
        for thing in objects():
            if judges.tree(thing):
                continue
            for call in (lambda: part_at(thing, None), lambda: put_at(thing, None, None), lambda: put_at(A, (), thing),
                         lambda: first_parted(thing, None), lambda: first_parted(A, thing)):
                with self.assertRaises(InvalidTree) as caught:
                    call()
                self.assertIs(caught.exception.value, thing)

    def test_results_are_new(self):
        tree, other = big(), big()
        told = put_at(tree, (1, 0), other)
        spoil(told)
        self.assertEqual((tree, other), (big(), big()))
        spoil(part_at(tree, ()))
        spoil(part_at(tree, (1,)))
        self.assertEqual(tree, big())
        told = put_at(tree, (1, 0), other)
        part = part_at(tree, (0,))
        spoil(tree)
        spoil(other)
        self.assertEqual(told, put_at(big(), (1, 0), big()))
        self.assertEqual(part, part_at(big(), (0,)))
        self.assertEqual(put_at(put_at(big(), (), big()), (), A), A)

    def test_forms_and_words(self):
        self.assertEqual(forms_in(big()), sorted([L, P, ("nil",), T, N, ("_", "!")]))
        self.assertEqual(words_in(big()), ["a", "let"])
        self.assertEqual((forms_in(A), words_in(A)), ([], ["a"]))
        self.assertEqual((forms_in(SEVEN), words_in(SEVEN)), ([], []))
        self.assertEqual(forms_in((P, [(P, [A, B]), (P, [B, A])])), [P])
        self.assertEqual(words_in((P, [(P, [B, A]), (P, [B, A])])), ["a", "b"])
        many = A
        for word in ("zz", "b", "aa", "y", "b", "a", "c"):
            many = (P, [("name", word), (T, [many, ("name", word)])])
        self.assertEqual(words_in(many), ["a", "aa", "b", "c", "y", "zz"])


def plain_rows(tree, begin):
    """Tokens with their begins and beginnings, told once more."""
    if isinstance(tree[0], str):
        return [(tree[1], begin, ())]
    rows, left = [], list(tree[1])
    for at, item in enumerate(tree[0]):
        if item == "_":
            rows += plain_rows(left.pop(0), begin + len(rows))
        else:
            rows.append((item, begin, tree[0][:at + 1]))
    return rows


class BareTextTest(unittest.TestCase):

    def test_texts_and_parts(self):
        self.assertEqual(bare_text(big()), ["let", "let", "+", "nil", "in", "not", "a", "*", "7", "!"])
        self.assertEqual(yield_parts(big()), [
            (0, ("let",)), (1, ()), (1, ("_", "+")), (3, ("nil",)), (0, ("let", "_", "in")), (5, ("not",)), (6, ()),
            (5, ("_", "*")), (8, ()), (8, ("_", "!"))])
        self.assertEqual((bare_text(SEVEN), yield_parts(SEVEN)), (["7"], [(0, ())]))
        self.assertEqual(yield_parts((("a", "b", "c"), [])), [(0, ("a",)), (0, ("a", "b")), (0, ("a", "b", "c"))])

    def test_first_parted(self):
        right, left = (P, [A, (T, [B, SEVEN])]), (T, [(P, [A, B]), SEVEN])
        self.assertEqual(first_parted(right, left), 3)
        self.assertEqual(first_parted(left, right), 3)
        self.assertIsNone(first_parted(right, (P, [A, (T, [B, SEVEN])])))
        self.assertIsNone(first_parted(A, ("name", "a")))
        self.assertEqual(first_parted(A, B), 0)
        # One text is the beginning of the other one.
        self.assertEqual(first_parted(A, (P, [A, B])), 1)
        self.assertEqual(first_parted((P, [A, B]), A), 1)
        self.assertEqual(first_parted((P, [A, B]), (P, [(P, [A, B]), B])), 3)
        # One text and other parts: a name and a form of one word, a shorter pattern and a longer one.
        self.assertEqual(first_parted(("name", "nil"), (("nil",), [])), 0)
        self.assertEqual(first_parted((("a", "_"), [("name", "b")]), (("a", "b"), [])), 1)
        self.assertEqual(first_parted((("a", "_"), [(("b", "c"), [])]), (("a", "_", "c"), [("name", "b")])), 1)
        self.assertEqual(first_parted((P, [(P, [A, A]), A]), (P, [A, (P, [A, A])])), 3)

    def test_held_against_a_plain_writing(self):
        source = random.Random(32)
        patterns = [form[0] for form in HERE.forms()] + [random_pattern(source, ["a", "b", "+"]) for _ in range(6)]
        trees = [random_tree(source, patterns, 3) for _ in range(150)]
        for tree in trees:
            rows = plain_rows(tree, 0)
            self.assertEqual(bare_text(tree), [row[0] for row in rows])
            self.assertEqual(yield_parts(tree), [row[1:] for row in rows])
            self.assertEqual(paths(tree), sorted(walk(tree)))
            for other in source.sample(trees, 12) + [put_at(tree, paths(tree)[-1], B)]:
                others = plain_rows(other, 0)
                both = list(zip(rows, others))
                unlike = [at for at, (one, two) in enumerate(both) if one != two]
                wanted = None if rows == others else (unlike + [len(both)])[0]
                self.assertEqual(first_parted(tree, other), wanted)
                self.assertIs(first_parted(tree, other) is None, tree == other)

    def test_texts_that_are_read_without_marks(self):
        for edition in random_editions(33, 60, 5, 9):
            source = random.Random(33)
            patterns = [form[0] for form in edition.forms()]
            for _ in range(10):
                tree = random_tree(source, patterns, 3)
                outcome = read(edition, bare_text(tree))
                if outcome[0] == "read":
                    self.assertEqual(bare_text(outcome[1]), bare_text(tree))
                    self.assertIs(outcome[1] == tree, first_parted(outcome[1], tree) is None)
