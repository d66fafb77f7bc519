"""Points 90 to 94: surroundings, looks, exchangeable texts and their classes."""

import unittest

from keptreadings.editions import Edition
from keptreadings.errors import Fault, InvalidEdition, InvalidLook, InvalidSurroundings, InvalidText
from keptreadings.exchange import are_class_texts, are_exchangeable, are_parting_surroundings, are_surroundings_of, class_texts, failed_looks, fits
from keptreadings.exchange import looks, many_classes, parting_surroundings, passes, surroundings_of
from keptreadings.reading import read
from keptreadings.tokens import cut
from tests import naive, naive_exchange
from tests.naive_exchange import all_surroundings, texts_read
from tests.samples import LET, NOT, PLUS, TIMES, objects, random_editions

HERE = Edition([PLUS, TIMES, NOT, LET], ["let"])
LESS = Edition([(("_", "-", "_"), 4, (4, 5)), (("-", "_"), 8, (8,)), NOT, (("_", "by", "_"), 8, (8, 9))], [])
SOME = [edition for edition in random_editions(180, 70, 3, 3) if len(edition.grammar.fixed()) <= 4]


def surroundings(line):
    """Surroundings told by a line with a colon between."""
    ahead, behind = line.split(":")
    return (cut(ahead), cut(behind))


def size(pair):
    return len(pair[0]) + len(pair[1])


class FitsTest(unittest.TestCase):

    def test_by_hand(self):
        for edition, text, line, wanted in (
            (HERE, "a", ":", True), (HERE, "a + b", ":", True), (HERE, "a + b", "(:)", True), (HERE, "a + b", "not:", False), (HERE, "(a + b)", "not:", True),
            (HERE, "a + b", "not(:)", True), (HERE, "a + b", "c *:", False), (HERE, "a * b", "c +:", True), (HERE, "a + b", "c +:", False), (HERE, "a + b", ": + c", True),
            (HERE, "a + b", ": * c", False), (HERE, "a * b", ": * c", True), (HERE, "a * b", "let: in c", True), (HERE, "let a in b", "c +:", False),
            (HERE, "let a in b", ": + c", False), (HERE, "let a in b", "(: ) + c", True), (HERE, "a", "b", None), (HERE, "not", ": + a", True), (HERE, "not", ": a", False),
            (HERE, "a", ": b", False), (HERE, "a", "(:", False), (HERE, "a", ": + b) * c", False), (HERE, "'let", "not:", True), (HERE, "in", "let: in a", True),
            # With a token behind that takes the value as its left child.
            (HERE, "not a", "b +: * c", True), (HERE, "a + b", "let: + c in a", True), (HERE, "a + b", "let: * c in a", False), (HERE, "a * b", "not: + c", False),
            # A text that goes on into what is behind it; one that is read as no one value.
            (LESS, "not", ": - a", False), (LESS, "(not)", ": - a", True), (LESS, "a - not", ": - a", False), (LESS, "'not", ": - a", True), (LESS, "by", "not:", False),
            (LESS, "by", "a -:", True), (LESS, "by", "a by:", True), (LESS, "- a", "a:", False), (LESS, "- a", "a -:", True), (LESS, "not", "not:", True),
        ):
            if wanted is not None:
                told = surroundings(line)
                self.assertIs(fits(edition, cut(text), told), wanted, (text, line))
                self.assertIs(naive_exchange.fits(edition, cut(text), told), wanted, (text, line))

    def test_one_that_goes_on_behind_a_hole(self):
        stray = Edition([(("a", "_"), 5, (0,)), (("a", "_", "b"), 5, (0,)), (("f", "_", "b", "_"), 5, (0, 0))], ["a"])
        self.assertIs(fits(stray, cut("a x"), surroundings("f: b y")), False)
        self.assertIs(fits(stray, cut("a x b"), surroundings("f: b y")), True)
        self.assertIs(fits(stray, cut("(a x)"), surroundings("f: b y")), True)
        # The tokens make another form there, of as many tokens.
        self.assertIs(fits(stray, cut("x"), surroundings("a: b")), True)
        self.assertIs(fits(stray, cut("a x"), surroundings(": b")), False)

    def test_against_a_name_in_its_place(self):
        seen = set()
        for edition in SOME[:14]:
            texts = texts_read(edition, 3, 30)
            for told in all_surroundings(edition, 2):
                for text in texts:
                    wanted = naive_exchange.fits(edition, text, told)
                    self.assertIs(fits(edition, text, told), wanted, (edition.forms(), edition.hard(), text, told))
                    seen.add(wanted)
        self.assertEqual(seen, {True, False})

    def test_what_are_no_surroundings(self):
        for wrong in ([["("], [")"]], (["("],), ([], [], []), (("(",), [")"]), (["("], (")",)), (["$"], []), ([], ["a", None]), (None, []), ([["("]], []), "()", None, ("(", ")"), ({}, [])):
            with self.assertRaises(InvalidSurroundings) as caught:
                fits(HERE, ["a"], wrong)
            self.assertIs(caught.exception.value, wrong)
            with self.assertRaises(Fault):
                fits(HERE, ["a", "+"], wrong)
            with self.assertRaises(InvalidText):
                fits(HERE, ["a", 1], wrong)

    def test_faults_of_texts(self):
        for call in (lambda text: fits(HERE, text, ([], [])), lambda text: passes(HERE, text, looks(HERE)[0]), lambda text: failed_looks(HERE, text),
                     lambda text: are_exchangeable(HERE, text, None), lambda text: are_exchangeable(HERE, ["a"], text), lambda text: parting_surroundings(HERE, text, ["$"]),
                     lambda text: are_parting_surroundings(HERE, ["a"], text, None), lambda text: passes(HERE, text, None)):
            for line, at in (("", 0), ("a +", 2), ("a b", 1), ("(a", 2), ("let", 1)):
                with self.assertRaises(Fault) as caught:
                    call(cut(line))
                self.assertEqual(caught.exception.value, at)
            for wrong in (("a",), ["$"], "a", None, [["a"]]):
                with self.assertRaises(InvalidText) as caught:
                    call(wrong)
                self.assertIs(caught.exception.value, wrong)


class LooksTest(unittest.TestCase):

    def test_by_hand(self):
        self.assertEqual(looks(Edition([], [])), [((), "", False), (("(",), ")", False)])
        plus = Edition([(PLUS[0], 5, (5, 6))], [])
        self.assertEqual(looks(plus), [((), "", False), ((), "+", True), (("(",), ")", False), (("(",), "+", True), (PLUS[0], "", False), (PLUS[0], ")", False), (PLUS[0], "+", False)])
        right = Edition([(PLUS[0], 5, (6, 5))], [])
        self.assertEqual(looks(right)[4:], [(PLUS[0], "", False), (PLUS[0], ")", False), (PLUS[0], "+", True)])
        # What a form would leave to the token is not to be taken by it.
        never = Edition([(PLUS[0], 5, (6, 6))], [])
        self.assertEqual(looks(never)[4:], [(PLUS[0], "", False), (PLUS[0], ")", False)])
        box = Edition([(("[", "_", "]"), 3, (4,)), (("_", "!"), 3, (0,))], [])
        self.assertEqual(looks(box), [((), "", False), ((), "!", True), (("(",), "!", True), (("(",), ")", False), (("[", "_"), "]", False)])

    def test_against_all_short_surroundings(self):
        many = 0
        for edition in SOME[:22]:
            known = looks(edition)
            self.assertEqual(known, sorted(known))
            least = {}
            for told in all_surroundings(edition, 3):
                least.setdefault(naive_exchange.look(edition, told), size(told))
            self.assertLessEqual(set(least), set(known))
            for look in known:
                around = surroundings_of(edition, look)
                self.assertEqual(naive_exchange.look(edition, around), look, (edition.forms(), look))
                self.assertIs(are_surroundings_of(edition, look, around), True)
                self.assertEqual(size(around), least[look] if look in least else max(4, size(around)))
                many += 1
        self.assertGreater(many, 80)

    def test_surroundings_of_a_look(self):
        edition = Edition([PLUS, TIMES, NOT], [])
        look = (NOT[0], "+", False)
        self.assertEqual([len(part) for part in surroundings_of(edition, look)], [1, 2])
        for line, wanted in (("not: + a", True), ("not: + 7", True), ("not: + not", True), ("not: * a", False), ("(not: + a)", False), ("not: + a + a", False), ("not: +", False),
                             ("+: + a", False), (": + a", False), ("a +: + a", False), ("not :", False)):
            self.assertIs(are_surroundings_of(edition, look, surroundings(line)), wanted, line)
        for thing in objects() + [[["not"], ["+", "a"]], (["not"], ("+", "a")), (["not"], ["+", "a"], []), (["not"], ["+", "$"])]:
            self.assertIs(are_surroundings_of(edition, look, thing), False)
            self.assertIs(are_surroundings_of(edition, ((), "", False), thing), False)
        self.assertIs(are_surroundings_of(edition, ((), "", False), ([], [])), True)
        self.assertIs(are_surroundings_of(edition, (("(",), ")", False), (["("], [")"])), True)
        self.assertIs(are_surroundings_of(edition, (("(",), ")", False), ([], [])), False)
        self.assertEqual(surroundings_of(edition, (NOT[0], ")", False)), (["(", "not"], [")"]))

    def test_what_is_no_look(self):
        look = (PLUS[0], "*", True)
        self.assertIn(look, looks(HERE))
        for wrong in ((PLUS[0], "*", 1), (PLUS[0], "*", False), ((), "", 0), (list(PLUS[0]), "*", True), [PLUS[0], "*", True], (PLUS[0], "*"), ("(", ")", False), (("_",), "+", True),
                      (("let", "_", "in"), "+", True), (PLUS[0], ["*"], True), ((), ")", False), (("(",), "", False), ((), "in", False), None, ((), "$", False), ({}, "", False), ()):
            for call in (lambda: surroundings_of(HERE, wrong), lambda: are_surroundings_of(HERE, wrong, ([], [])), lambda: passes(HERE, ["a"], wrong)):
                with self.assertRaises(InvalidLook) as caught:
                    call()
                self.assertIs(caught.exception.value, wrong)
        with self.assertRaises(InvalidEdition):
            surroundings_of(None, None)


class PassesTest(unittest.TestCase):

    def test_all_surroundings_that_have_a_look(self):
        seen = set()
        for edition in SOME[:16]:
            texts = texts_read(edition, 4, 40)
            passed = {at: {look: passes(edition, text, look) for look in looks(edition)} for at, text in enumerate(texts)}
            for at, text in enumerate(texts):
                self.assertEqual(failed_looks(edition, text), [look for look in looks(edition) if not passed[at][look]])
            for told in all_surroundings(edition, 3):
                look = naive_exchange.look(edition, told)
                for at, text in enumerate(texts):
                    self.assertIs(naive_exchange.fits(edition, text, told), passed[at][look], (edition.forms(), edition.hard(), text, told))
                    seen.add(passed[at][look])
        self.assertEqual(seen, {True, False})

    def test_each_look_by_its_surroundings(self):
        for edition in SOME + [HERE, LESS]:
            for text in texts_read(edition, 3, 12):
                failed = failed_looks(edition, text)
                for look in looks(edition):
                    self.assertIs(fits(edition, text, surroundings_of(edition, look)), look not in failed, (edition.forms(), text, look))


class ExchangeableTest(unittest.TestCase):

    def test_against_all_short_surroundings(self):
        seen = set()
        for edition in SOME[:12]:
            texts = texts_read(edition, 3, 14)
            around = list(all_surroundings(edition, 3))
            fitted = [[naive_exchange.fits(edition, text, told) for told in around] for text in texts]
            for at, one in enumerate(texts):
                for by, other in enumerate(texts):
                    unlike = [told for told, first, second in zip(around, fitted[at], fitted[by]) if first != second]
                    found = parting_surroundings(edition, one, other)
                    self.assertIs(are_exchangeable(edition, one, other), found is None)
                    self.assertFalse(unlike and found is None, (edition.forms(), one, other))
                    seen.add(found is None)
                    if found is not None:
                        self.assertEqual(size(found), size(unlike[0]) if unlike else max(4, size(found)))
                        self.assertNotEqual(naive_exchange.fits(edition, one, found), naive_exchange.fits(edition, other, found))
                        self.assertIs(are_parting_surroundings(edition, one, other, found), True)
                        for told in unlike[:20]:
                            self.assertIs(are_parting_surroundings(edition, one, other, told), size(told) == size(found))
                        for told in around[:20]:
                            self.assertIs(are_parting_surroundings(edition, one, other, told), told in unlike and size(told) == size(found))
        self.assertEqual(seen, {True, False})

    def test_other_objects(self):
        one, other = ["a"], ["a", "+", "b"]
        self.assertEqual(parting_surroundings(HERE, one, other), (["not"], []))
        for line, wanted in (("not:", True), (": * 3", False), ("a +:", False), (":", False), ("a *:", False), ("not: + a", False), ("not not:", False), ("+:", False), (": not", False)):
            self.assertIs(are_parting_surroundings(HERE, one, other, surroundings(line)), wanted, line)
            self.assertIs(are_parting_surroundings(HERE, other, one, surroundings(line)), wanted, line)
            self.assertIs(are_parting_surroundings(HERE, one, one, surroundings(line)), False)
        for thing in objects() + [[["not"], []], (["not"],), (("not",), []), (["not"], None)]:
            self.assertIs(are_parting_surroundings(HERE, one, other, thing), False)
            self.assertIs(are_parting_surroundings(HERE, one, ["(", "b", ")"], thing), False)

    def test_more_forms_in_the_surroundings(self):
        # Just below forms that lead down, one behind the other, to a place that none of them reaches alone.
        for many in (1, 2, 3):
            words = ["f", "g", "h", "k"][:many]
            forms = [((word, "_"), 9 - 2 * at, (7 - 2 * at,)) for at, word in enumerate(words)] + [(("_", "+", "_"), 6 - 2 * many, (9 - 2 * many, 9))]
            edition = Edition(forms, words)
            self.assertGreaterEqual(many_classes(edition), 2)
            for look in looks(edition):
                self.assertIs(are_surroundings_of(edition, look, surroundings_of(edition, look)), True)


class ClassesTest(unittest.TestCase):

    def test_against_all_texts(self):
        found = set()
        for edition in SOME + [HERE, LESS]:
            texts = texts_read(edition, 3 if len(edition.grammar.fixed()) > 3 else 4, 400)
            kinds = {repr(failed_looks(edition, text)): text for text in reversed(texts)}
            rows = class_texts(edition)
            told = [repr(failed_looks(edition, text)) for text in rows]
            self.assertEqual(many_classes(edition), len(rows))
            self.assertEqual(len(set(told)), len(rows))
            self.assertLessEqual(set(kinds), set(told))
            for text, kind in zip(rows, told):
                self.assertEqual(naive.read(edition, text)[0], "read")
                if len(text) <= 3:
                    self.assertIn(kind, kinds)
            self.assertIs(are_class_texts(edition, rows), True)
            self.assertIs(are_class_texts(edition, rows[::-1]), True)
            self.assertIs(are_class_texts(edition, rows[1:]), False)
            self.assertIs(are_class_texts(edition, rows + rows[:1]), False)
            if len(rows) > 1:
                self.assertIs(are_class_texts(edition, rows[1:] + rows[1:2]), False)
            others = [kinds.get(kind, text) for text, kind in zip(rows, told)]
            self.assertIs(are_class_texts(edition, others), True)
            found.add(len(rows))
        self.assertLessEqual({1, 2, 3}, found)

    def test_other_objects(self):
        edition = Edition([(PLUS[0], 5, (5, 9)), (("f", "_"), 9, (6,))], [])
        self.assertEqual(many_classes(edition), 2)
        for value, wanted in (
            ([["x"], cut("x + x")], True), ([cut("x + y * z"), ["x"]], False), ([cut("f x"), cut("a + b + c")], True), ([cut("(a + b)"), cut("a + b")], True), ([["f"], cut("a + b")], True),
            ([["x"], cut("f x")], False), ([["x"]], False), ([["x"], cut("x + x"), ["y"]], False), ([["x"], cut("x +")], False), ((["x"], cut("x + x")), False), ([["x"], ("x", "+", "x")], False),
            ([["x"], ["$"]], False), ([["x"], None], False), ([["x"], []], False), ([], False), (None, False),
        ):
            self.assertIs(are_class_texts(edition, value), wanted, value)
        for thing in objects():
            self.assertIs(are_class_texts(edition, thing), False)
            self.assertIs(are_class_texts(Edition([], []), thing), thing == [["bracket"]])

    def test_the_edition_without_forms(self):
        empty = Edition([], [])
        self.assertEqual(many_classes(empty), 1)
        for rows in (class_texts(empty), [["a"]], [["7"]], [["'a"]], [["(", "(", "b", ")", ")"]]):
            self.assertIs(are_class_texts(empty, rows), True)
        self.assertIs(are_exchangeable(empty, ["a"], ["(", "7", ")"]), True)
        self.assertIsNone(parting_surroundings(empty, ["a"], ["7"]))

    def test_many_classes(self):
        # Each tail of its own level, and a soft word by itself, has a class.
        edition = Edition([((("_", sign, "_")), at, (at, at + 1)) for at, sign in enumerate("+*^", 2)] + [NOT, (("-", "_"), 8, (8,))], [])
        texts = [["x"], cut("x + x"), cut("x * x"), cut("x ^ x")]
        for one in texts:
            for other in texts:
                self.assertIs(are_exchangeable(edition, one, other), one == other)
        self.assertEqual(many_classes(edition), len({repr(failed_looks(edition, text)) for text in texts_read(edition, 3, 10 ** 6)}))

    def test_classes_are_shared_just_by_exchangeable_texts(self):
        for edition in SOME[:12] + [LESS]:
            rows = class_texts(edition)
            for text in texts_read(edition, 3, 60):
                self.assertEqual([are_exchangeable(edition, text, row) for row in rows].count(True), 1)

    def test_texts_are_read(self):
        for edition in SOME:
            self.assertTrue(all(read(edition, text)[0] == "read" for text in class_texts(edition)))
