"""Points 70 to 73: lots of changes, which of them break texts, and which forms all broken texts have."""

import random
import unittest
from itertools import combinations

from keptreadings.blame import are_blame_texts, breaking_lots, broken_without, blame_texts, is_broken_without, kept_lots, lot_edition, needed_forms
from keptreadings.editions import Edition, changed, changed_by
from keptreadings.errors import InvalidChange, InvalidChanges, InvalidEdition, InvalidLot, UnknownForm, Unsound
from keptreadings.kept import is_kept_text, kept
from keptreadings.reading import read
from keptreadings.shortest import parting_size
from keptreadings.tokens import cut
from tests import naive_pairs
from tests.pairs import random_pairs, some_change, stock_pairs, told
from tests.samples import LET, NOT, PLUS, TIMES, objects, random_editions, snapshot

LESS, MINUS, WORD = (("_", "-", "_"), 5, (5, 6)), (("-", "_"), 8, (8,)), (("w", "_"), 3, (3,))
PLAIN, PUTS = Edition([LESS], []), [("put", MINUS), ("put", WORD)]
CALLS = Edition([(PLUS[0], 5, (5, 9)), (("f", "_"), 9, (6,))], [])
MOVES = [("level", ("tail", "+"), 6), ("level", ("hole", ("f", "_")), 7)]


def lots_of(many):
    return [list(lot) for size in range(many + 1) for lot in combinations(range(many), size)]


def naive_edition(elder, changes, lot):
    """[70], by the changes one after the other."""
    try:
        return changed_by(elder, [changes[at] for at in lot])
    except (InvalidChange, Unsound):
        return None


def random_lists(seed, count, many):
    """Editions with lists of changes, some of which fit only behind others."""
    source = random.Random(seed)
    found = []
    for edition in random_editions(seed, count, 4, 3):
        changes, ahead = [], edition
        for _ in range(source.randint(0, many)):
            change = some_change(source, ahead if source.random() < 0.7 else edition, ["a", "b", "c", "+", "-"], 3)
            changes += change
            ahead = naive_edition(ahead, change, [0]) or ahead
        found.append((edition, changes))
    return found


class LotEditionTest(unittest.TestCase):

    def test_lots(self):
        self.assertEqual(lot_edition(PLAIN, PUTS, []), PLAIN)
        self.assertEqual(lot_edition(PLAIN, PUTS, [0]), Edition([LESS, MINUS], []))
        self.assertEqual(lot_edition(PLAIN, PUTS, [0, 1]), Edition([LESS, MINUS, WORD], []))
        self.assertEqual(lot_edition(PLAIN, [], []), PLAIN)

    def test_changes_that_fit_behind_others(self):
        changes = [("put", WORD), ("level", ("head", "w"), 7), ("hard", "w"), ("out", WORD[0])]
        self.assertEqual(lot_edition(PLAIN, changes, [0, 1]), Edition([LESS, (("w", "_"), 7, (3,))], []))
        self.assertEqual(lot_edition(PLAIN, changes, [0, 1, 2]).hard(), ["w"])
        self.assertEqual(lot_edition(PLAIN, changes, [0, 3]), PLAIN)
        # They do not fit without it; a hard word begins no head; its head is gone again.
        for lot in ([1], [1, 2], [3], [2], [0, 2, 3], [0, 1, 2, 3], [2, 3]):
            self.assertIsNone(lot_edition(PLAIN, changes, lot), lot)

    def test_what_lies_between_need_not_be_sound(self):
        low, twice = (("w", "_", "by"), 4, (3,)), ("put", LESS)
        changes = [("put", WORD), ("put", low), ("level", ("head", "w"), 5), ("out", WORD[0])]
        self.assertIsNone(lot_edition(PLAIN, changes, [0, 1]))
        self.assertEqual(lot_edition(PLAIN, changes, [0, 1, 2]), Edition([LESS, (("w", "_"), 5, (3,)), (("w", "_", "by"), 5, (3,))], []))
        self.assertEqual(lot_edition(PLAIN, changes, [0, 1, 3]), Edition([LESS, low], []))
        self.assertIsNone(lot_edition(PLAIN, [twice], [0]))
        # A word is hard before its head is put in.
        self.assertEqual(lot_edition(PLAIN, [("hard", "w"), ("put", WORD)], [0, 1]), Edition([LESS, WORD], ["w"]))
        self.assertIsNone(lot_edition(PLAIN, [("hard", "w"), ("put", WORD)], [0]))

    def test_many(self):
        for elder, changes in random_lists(90, 120, 4):
            for lot in lots_of(len(changes)):
                self.assertEqual(lot_edition(elder, changes, lot), naive_edition(elder, changes, lot), (elder.forms(), changes, lot))

    def test_what_is_no_lot(self):
        for lot in [[0, 0], [1, 0], [2], [-1], [True], [False], [0, True], (0,), 0, None, ["0"], [[0]], [0, 1, 2], {}, {0: 1}, "", [None], [10 ** 30]]:
            with self.assertRaises(InvalidLot) as caught:
                lot_edition(PLAIN, PUTS, lot)
            self.assertIs(caught.exception.value, lot)
        for lot in objects():
            if snapshot(lot) not in (snapshot([]), snapshot([1])):
                with self.assertRaises(InvalidLot) as caught:
                    lot_edition(PLAIN, PUTS, lot)
                self.assertIs(caught.exception.value, lot)

    def test_what_is_no_list_of_changes(self):
        calls = [lambda elder, changes: lot_edition(elder, changes, None), breaking_lots, kept_lots, blame_texts,
                 lambda elder, changes: are_blame_texts(elder, changes, None)]
        for ask in calls:
            for wrong in [tuple(PUTS), None, PUTS[0], {}, "x"] + [thing for thing in objects() if not isinstance(thing, list)]:
                with self.assertRaises(InvalidChanges) as caught:
                    ask(PLAIN, wrong)
                self.assertIs(caught.exception.value, wrong)
                with self.assertRaises(InvalidEdition):
                    ask([wrong], wrong)
            # The first one that is none, behind one that does not fit.
            for thing in objects():
                if thing not in [("put", (("+",), 1, ())), ("out", ("+",)), ("level", ("tail", "+"), 1), ("level", ("hole", ("+", "_")), 1), ("hard", "a")]:
                    with self.assertRaises(InvalidChange) as caught:
                        ask(PLAIN, [("out", NOT[0]), thing, None])
                    self.assertIs(caught.exception.value, thing)


class LotsTest(unittest.TestCase):

    def test_examples(self):
        self.assertEqual([breaking_lots(PLAIN, PUTS), kept_lots(PLAIN, PUTS)], [[[0, 1]], [[0], [1]]])
        self.assertEqual([breaking_lots(CALLS, MOVES), kept_lots(CALLS, MOVES)], [[[0]], [[0, 1]]])
        self.assertEqual([breaking_lots(PLAIN, []), kept_lots(PLAIN, []), blame_texts(PLAIN, [])], [[], [[]], []])
        twice = [("put", LESS), ("put", LESS)]
        self.assertEqual([breaking_lots(PLAIN, twice), kept_lots(PLAIN, twice)], [[], [[]]])

    def test_a_lot_that_holds_one_that_breaks_may_keep(self):
        self.assertIs(kept(CALLS, lot_edition(CALLS, MOVES, [0])), False)
        self.assertIs(kept(CALLS, lot_edition(CALLS, MOVES, [0, 1])), True)

    def test_the_order_of_lots(self):
        # By the lots as lists: [0] and what begins so ahead of [1].
        changes = [("hard", "not"), ("put", TIMES), ("out", PLUS[0]), ("hard", "let")]
        elder = Edition([PLUS, NOT, LET], [])
        self.assertEqual(breaking_lots(elder, changes), [[0], [2], [3]])
        self.assertEqual(kept_lots(elder, changes), [[1]])
        both = [("put", WORD), ("out", LESS[0]), ("put", MINUS)]
        self.assertEqual(breaking_lots(PLAIN, both), [[0, 2], [1]])
        self.assertEqual(kept_lots(PLAIN, both), [[0], [2]])

    def test_held_against_all_lots(self):
        seen = set()
        for elder, changes in random_lists(91, 160, 4):
            states = {}
            for lot in lots_of(len(changes)):
                newer = naive_edition(elder, changes, lot)
                states[tuple(lot)] = newer and ("keeps" if kept(elder, newer) else "breaks")
            breaking = [set(lot) for lot in states if states[lot] == "breaks"]
            keeping = [set(lot) for lot in states if states[lot] == "keeps"]
            least = sorted(sorted(lot) for lot in breaking if not any(other < lot for other in breaking))
            greatest = sorted(sorted(lot) for lot in keeping if not any(lot < other for other in keeping))
            self.assertEqual(breaking_lots(elder, changes), least, (elder.forms(), changes))
            self.assertEqual(kept_lots(elder, changes), greatest, (elder.forms(), changes))
            seen.add((len(least), len(greatest)))
        self.assertGreater(len(seen), 5)


class BlameTextsTest(unittest.TestCase):

    def test_texts(self):
        self.assertIs(are_blame_texts(PLAIN, PUTS, [cut("w - x")]), True)
        self.assertIs(are_blame_texts(PLAIN, PUTS, [cut("w - w")]), True)
        for wrong in ([], [cut("w - x")] * 2, [cut("x - w")], [cut("( w - x )")], [cut("w")], cut("w - x"), [tuple(cut("w - x"))], (cut("w - x"),), None,
                      [["w", "-", "X"]], [None], [[cut("w - x")]], {}):
            self.assertIs(are_blame_texts(PLAIN, PUTS, wrong), False, wrong)
        for thing in objects():
            self.assertIs(are_blame_texts(PLAIN, PUTS, thing), False)
            self.assertIs(are_blame_texts(PLAIN, PUTS, [thing]), False)
            self.assertIs(are_blame_texts(PLAIN, [], thing), isinstance(thing, list) and not thing)

    def test_in_the_order_of_the_lots(self):
        elder = Edition([PLUS, NOT, LET], [])
        changes = [("hard", "not"), ("hard", "let")]
        self.assertIs(are_blame_texts(elder, changes, [["not"], ["let"]]), True)
        self.assertIs(are_blame_texts(elder, changes, [["let"], ["not"]]), False)
        self.assertIs(are_blame_texts(elder, changes, [["not"], ["not"]]), False)
        self.assertIs(are_blame_texts(elder, changes, [["not"]]), False)
        self.assertIs(are_blame_texts(elder, changes, [["not"], ["let"], ["let"]]), False)

    def test_many(self):
        for elder, changes in random_lists(92, 100, 3):
            lots, texts = breaking_lots(elder, changes), blame_texts(elder, changes)
            self.assertEqual(len(texts), len(lots))
            self.assertIs(are_blame_texts(elder, changes, texts), True)
            for lot, text in zip(lots, texts):
                newer = lot_edition(elder, changes, lot)
                self.assertEqual(len(text), parting_size(elder, newer))
                self.assertIs(naive_pairs.broken(elder, newer, text), True)
            for at in range(len(texts)):
                longer = texts[:at] + [["("] + texts[at] + [")"]] + texts[at + 1:]
                self.assertIs(are_blame_texts(elder, changes, longer), False)
                self.assertIs(are_blame_texts(elder, changes, texts[:at] + texts[at + 1:]), False)
                other = texts[:at] + [["x"] * len(texts[at])] + texts[at + 1:]
                self.assertIs(are_blame_texts(elder, changes, other), False)


class NeededFormsTest(unittest.TestCase):

    def test_examples(self):
        both = lot_edition(PLAIN, PUTS, [0, 1])
        self.assertEqual(needed_forms(PLAIN, both), [LESS[0]])
        self.assertIsNone(broken_without(PLAIN, both, LESS[0]))
        self.assertIsNone(needed_forms(PLAIN, lot_edition(PLAIN, PUTS, [0])))
        self.assertEqual(needed_forms(CALLS, lot_edition(CALLS, MOVES, [0])), [PLUS[0], ("f", "_")])
        self.assertEqual(needed_forms(Edition([NOT, PLUS], []), Edition([NOT, PLUS], ["not"])), [])
        self.assertIsNone(needed_forms(Edition([], []), PLAIN))
        self.assertEqual(needed_forms(PLAIN, Edition([], [])), [LESS[0]])
        self.assertEqual(needed_forms(Edition([LESS, LET], []), Edition([], [])), [])

    def test_broken_without(self):
        elder, newer = Edition([PLUS, TIMES, LET], []), Edition([(PLUS[0], 4, (5, 5)), (TIMES[0], 6, (7, 7)), LET], [])
        self.assertEqual(needed_forms(elder, newer), [])
        self.assertEqual([form for form in broken_without(elder, newer, PLUS[0]) if form in "+*"], ["*", "*"])
        self.assertEqual([form for form in broken_without(elder, newer, TIMES[0]) if form in "+*"], ["+", "+"])
        self.assertEqual(len(broken_without(elder, newer, LET[0])), 5)
        for text, wanted in (("x * x * x", True), ("x + x + x", False), ("x * x", False), ("( x * x * x )", False), ("x * x * ( x )", False), ("x + * x x", False)):
            self.assertIs(is_broken_without(elder, newer, PLUS[0], cut(text)), wanted, text)
        for thing in objects() + [tuple(cut("x * x * x"))]:
            self.assertIs(is_broken_without(elder, newer, PLUS[0], thing), False)
            self.assertIs(is_broken_without(PLAIN, lot_edition(PLAIN, PUTS, [0, 1]), LESS[0], thing), False)

    def test_the_whole_elder_edition_reads_it(self):
        # Without the pattern "w _" the word would be a name in what remains, which is no matter here.
        elder = Edition([WORD, LESS, MINUS], [])
        newer = Edition([LESS, MINUS], [])
        self.assertEqual(needed_forms(elder, newer), [WORD[0]])
        self.assertIs(is_kept_text(newer, elder, cut("w - x")), False)
        self.assertIsNone(broken_without(elder, newer, WORD[0]))

    def test_what_is_no_pattern(self):
        for wrong in [TIMES[0], list(LESS[0]), LESS, ("_", "-"), None, (), "x"] + objects():
            for ask in (broken_without, lambda *rest: is_broken_without(*rest, ["x"])):
                with self.assertRaises(UnknownForm) as caught:
                    ask(PLAIN, CALLS, wrong)
                self.assertIs(caught.exception.value, wrong)
                with self.assertRaises(InvalidEdition) as caught:
                    ask(PLAIN, [wrong], wrong)
                self.assertEqual(caught.exception.value.__class__, list)
                with self.assertRaises(InvalidEdition):
                    ask([wrong], PLAIN, wrong)
        # A pattern of the newer alone is none.
        with self.assertRaises(UnknownForm):
            broken_without(PLAIN, Edition([LESS, MINUS], []), MINUS[0])

    def test_held_against_texts_of_few_tokens(self):
        seen = set()
        for elder, newer in random_pairs(93, 110, 3, 3) + stock_pairs(93, 40, 3, 3):
            needed = needed_forms(elder, newer)
            self.assertIs(needed is None, kept(elder, newer))
            texts = naive_pairs.broken_texts(elder, newer, 4, 700)
            sets = [set(naive_pairs.patterns_in(read(elder, text)[1])) for text in texts]
            for pattern, _, _ in elder.forms():
                text = broken_without(elder, newer, pattern)
                lacking = [len(text) for text, patterns in zip(texts, sets) if pattern not in patterns]
                if needed is not None:
                    self.assertIs(pattern in needed, text is None, told(elder, newer))
                if text is None:
                    self.assertEqual(lacking, [], (told(elder, newer), pattern))
                    continue
                self.assertIs(is_broken_without(elder, newer, pattern, text), True)
                self.assertIs(naive_pairs.broken(elder, newer, text), True)
                self.assertNotIn(pattern, naive_pairs.patterns_in(read(elder, text)[1]))
                if lacking:
                    self.assertLessEqual(len(text), min(lacking), (told(elder, newer), pattern))
                if len(text) <= 3:
                    self.assertEqual(len(text), min(lacking))
                seen.add((needed == [], len(text)))
        self.assertGreater(len(seen), 5)

    def test_held_against_a_search(self):
        seen = set()
        for elder, newer in random_pairs(94, 70, 4, 3):
            for pattern, _, _ in elder.forms()[:2]:
                text = broken_without(elder, newer, pattern)
                size = naive_pairs.shortest_broken(elder, newer, 6, without=(pattern,), cap=300)
                if size != -1:
                    self.assertEqual(len(text) if text is not None and len(text) <= 6 else None, size, (told(elder, newer), pattern))
                seen.add(size)
        self.assertLessEqual({None, 1, 2, 3}, seen)

    def test_changed_levels(self):
        elder = Edition([PLUS, TIMES], [])
        newer = changed(elder, ("level", ("hole", PLUS[0]), 7))
        self.assertEqual(needed_forms(elder, newer), [TIMES[0], PLUS[0]])
