"""Point 3 for sections 16 to 22: calls at the limits are answered, and take what they returned again."""

import random
import unittest

from keptreadings.agreeing import greatest_agreeing, is_agreeing, is_quarrel, least_agreeing, quarrel, quarrelling
from keptreadings.blame import lot_edition
from keptreadings.editions import Edition, changed, changed_by, numbers
from keptreadings.exchange import are_class_texts, are_exchangeable, are_parting_surroundings, are_surroundings_of, class_texts, failed_looks, fits, looks
from keptreadings.exchange import many_classes, parting_surroundings, passes, surroundings_of
from keptreadings.kept import kept, kept_table
from keptreadings.leading import apart_for_all, are_apart_for_all, are_for_all, are_idle_pairs, idle_number, idle_pairs, is_led_over, led_over, led_price, marks_in
from keptreadings.leading import needed_for_all, one_for_all
from keptreadings.papers import change_text, edition_text, read_change, read_edition, read_table, read_tree, table_text, tree_text
from keptreadings.reading import read, standing
from keptreadings.scripts import end_of, play, read_script, script_text, trimmed
from keptreadings.trees import paths
from keptreadings.ways import all_but, are_held, bare_parting, is_bare, is_bare_parting, is_unheld_way, unheld, unheld_way
from keptreadings.workshop import Workshop, edited, met, replayed
from tests.samples import snapshot
from tests.test_limits import FORMS, FULL, raised_levels
from tests.test_limits_pairs import HEADS, PAIRS, TAILS
from tests.test_marks import random_tree
from tests.test_workshop import reach, told

MOVED = [Edition(raised_levels(FORMS, by), ["a"]) for by in (1, 2, 4)]
FIVE = Edition(FORMS[:4] + [(("_", "*", "_", "g", "_"), 3, (2, 3, 4))], ["a"])
STEPS = Edition([(("_", sign, "_"), 2 * at, (2 * at, 2 * at + 1)) for at, sign in enumerate("+-*/")] + [(("w", "_", "x", "_", "y", "_"), 9, (5, 3, 1))], [])


def large_trees(edition, seed):
    """Trees of some forty nodes, and one that is nested some twenty deep or more."""
    source = random.Random(seed)
    found = []
    while len(found) < 4:
        tree = random_tree(source, edition, ["q", "a", "b", "e"], 14)
        if 30 <= len(paths(tree)) <= 42:
            found.append(tree)
    pattern = min([form[0] for form in edition.forms() if "_" in form[0]], key=lambda row: row.count("_"))
    tree = ("name", "b")
    while len(paths(tree)) < 39:
        tree = (pattern, [tree] + [("number", "7")] * (pattern.count("_") - 1))
    return found + [tree]


class LeadingTest(unittest.TestCase):

    def test_four_editions_and_trees_of_forty_nodes(self):
        for tree in large_trees(FULL, 230):
            editions = [FULL] + MOVED
            marks, ways = one_for_all(editions, tree), apart_for_all(editions, tree)
            self.assertEqual([len(marks), len(ways)], [needed_for_all(editions, tree)] * 2)
            self.assertIs(are_for_all(editions, tree, marks), True)
            self.assertIs(are_apart_for_all(editions, tree, ways), True)
            self.assertIs(are_for_all(editions, tree, marks[1:]), not marks)
            self.assertIs(are_for_all(editions, tree, sorted(set(marks + [()]))), () in marks)
            self.assertIs(are_apart_for_all(editions, tree, ways[1:]), not ways)
            self.assertIs(are_apart_for_all(editions, tree, ways + [((), ())]), False)

    def test_texts_of_sixty_tokens(self):
        deep = ["("] * 29 + ["x"] + [")"] * 29
        wide = ["x"] + ["+", "x", "e", "x"] * 14
        brackets = ["(", "x", "-", "x", ")", "/"] * 9 + ["(", "x", ")"]
        for text in (deep, wide, brackets):
            if read(FULL, text)[0] != "read":
                continue
            self.assertGreaterEqual(len(text), 57)
            tree, pairs, quotes = marks_in(FULL, text)
            self.assertEqual(sum(pairs.values()), text.count("("))
            idle = idle_pairs(FULL, text)
            self.assertEqual(len(idle), idle_number(FULL, text))
            self.assertIs(are_idle_pairs(FULL, text, idle), True)
            self.assertIs(are_idle_pairs(FULL, text, idle[1:]), not idle)
            for newer in MOVED:
                led = led_over(FULL, newer, text)
                self.assertEqual(read(newer, led), ("read", tree))
                self.assertIs(is_led_over(FULL, newer, text, led), True)
                self.assertIs(is_led_over(FULL, newer, text, led + ["x"]), False)
                self.assertGreaterEqual(led_price(FULL, newer, text), 0)
        self.assertEqual(idle_number(FULL, deep), 29)


class WaysTest(unittest.TestCase):

    def test_eight_forms(self):
        for elder, newer in PAIRS + [(FULL, one) for one in MOVED] + [(one, FULL) for one in MOVED] + [(TAILS, changed(TAILS, ("level", ("left", "="), 9)))]:
            if not {form[0] for form in elder.forms()} <= {form[0] for form in newer.forms()}:
                continue
            self.assertIs(are_held(elder, newer), kept(elder, newer))
            found, text = unheld_way(elder, newer), bare_parting(elder, newer)
            self.assertEqual([found is None, text is None], [are_held(elder, newer)] * 2)
            if found is not None:
                self.assertIs(is_unheld_way(elder, newer, found), True)
                self.assertIs(is_unheld_way(elder, newer, found + (None,)), False)
                self.assertIn(found[1], unheld(elder, newer, found[0]))
                self.assertEqual(read(elder, all_but(elder, found[0], found[1])), ("read", found[0]))
                self.assertIs(is_bare_parting(elder, newer, text), True)
                self.assertIs(is_bare(elder, newer, text + ["("]), False)
                self.assertIs(is_bare_parting(elder, newer, text + ["("]), False)

    def test_trees_of_forty_nodes(self):
        for tree in large_trees(FULL, 231):
            for newer in MOVED:
                ways = unheld(FULL, newer, tree)
                for way in ways[:3]:
                    self.assertIs(is_unheld_way(FULL, newer, (tree, way)), True)
                    self.assertEqual(read(FULL, all_but(FULL, tree, way)), ("read", tree))
                    self.assertNotEqual(read(newer, all_but(FULL, tree, way)), ("read", tree))


class ExchangeTest(unittest.TestCase):

    def test_five_forms(self):
        for edition in (FIVE, STEPS):
            self.assertEqual(len(edition.forms()), 5)
            known = looks(edition)
            for look in known:
                around = surroundings_of(edition, look)
                self.assertIs(are_surroundings_of(edition, look, around), True)
                self.assertIs(are_surroundings_of(edition, look, (around[0] + ["("], around[1] + [")"])), False)
                self.assertIs(are_surroundings_of(edition, look, (around[0], around[1][1:])), False if around[1] else True)
            rows = class_texts(edition)
            self.assertEqual(len(rows), many_classes(edition))
            self.assertIs(are_class_texts(edition, rows), True)
            self.assertIs(are_class_texts(edition, rows[1:]), False)
            self.assertIs(are_class_texts(edition, rows + [["q"]]), False)
            for one in rows:
                self.assertEqual([passes(edition, one, look) for look in known], [look not in failed_looks(edition, one) for look in known])
                for other in rows:
                    found = parting_surroundings(edition, one, other)
                    self.assertIs(found is None, one == other)
                    self.assertIs(are_exchangeable(edition, one, other), one == other)
                    if found is not None:
                        self.assertIs(are_parting_surroundings(edition, one, other, found), True)
                        self.assertIs(are_parting_surroundings(edition, one, other, (found[0], found[1] + ["+", "q"])), False)
                        self.assertNotEqual(fits(edition, one, found), fits(edition, other, found))

    def test_texts_of_sixty_tokens(self):
        text = ["x"] + ["+", "x"] * 29
        self.assertEqual(read(STEPS, text)[0], "read")
        self.assertIs(are_exchangeable(STEPS, text, ["x", "+", "x"]), True)
        deep = ["("] * 29 + text[:3] + [")"] * 29
        self.assertIs(are_exchangeable(STEPS, deep, ["7"]), True)
        self.assertIs(fits(STEPS, deep, (["("] * 30, [")"] * 30)), True)


class WorkshopTest(unittest.TestCase):

    def test_sixty_commands(self):
        source = random.Random(232)
        shop = Workshop(FULL)
        for at in range(60):
            if at < 8:
                self.assertEqual(shop.enter(["x"] + ["+", "x", "e", "x"] * at), at)
            elif at % 4 == 0:
                shop.change([("level", key, source.randint(0, 9)) for key in source.sample(list(numbers(FULL)), 4)])
            elif at % 4 == 1:
                shop.lead(at % 8)
            elif at % 4 == 2:
                shop.edit(at % 8, (0, 1, ["f", "x", "b", "x"]))
                if shop.due(at % 8) is None:
                    shop.edit(at % 8, (0, len(shop.text(at % 8)), ["x"]))
            else:
                shop.change_kept([])
        self.assertEqual(len(shop.spots()), 8)
        self.assertEqual(told(replayed(Workshop(FULL), shop.log())), told(shop))
        self.assertEqual(told(shop.copy()), told(shop))
        self.assertEqual(len(reach(shop)), 1 + 2 * len(shop.log()))
        shorter = replayed(Workshop(FULL), shop.log()[:-1])
        shop.undo()
        self.assertEqual(told(shop), told(shorter))

    def test_ten_deep(self):
        shop = Workshop(TAILS)

        def deeper(many):
            shop.enter(["x"])
            if many == 0:
                return shop.spots()
            if many % 2:
                return shop.attempt(lambda here: deeper(many - 1))
            with shop.trial():
                return deeper(many - 1)
        self.assertEqual(deeper(10), list(range(11)))
        self.assertEqual(shop.spots(), [0])

    def test_edits_of_sixty_tokens(self):
        text = ["x"] + ["+", "x", "e", "x"] * 14 + ["-", "x"]
        for edit in ((0, 1, ["(", "x", ")"]), (1, 1, []), (59, 59, ["-", "x"]), (0, 59, text), (30, 31, ["x"])):
            other = edited(text, edit)
            many = met(FULL, text, edit)
            if many is not None:
                self.assertEqual(standing(FULL, text, edit[1] + many), standing(FULL, other, edit[0] + len(edit[2]) + many))


class ScriptsTest(unittest.TestCase):

    def test_thirty_commands(self):
        inner = [("enter", ["x"]), ("change", [("hard", "f")]), ("parted",)]
        for _ in range(3):
            inner = [("try", inner), ("undo",), ("reading", 0)]
        script = [("enter", ["x", "-", "x"])] * 8 + [("try", inner), ("change", [("level", ("tail", "-"), 0)]), ("edit", 10 ** 29, (10 ** 29, 3, ["x"])), ("close", 10 ** 29), ("lead", 3), ("parted",)]
        self.assertEqual(snapshot(read_script(script_text(script))), snapshot(script))
        shop, other = Workshop(FULL), Workshop(FULL)
        self.assertEqual(play(shop, script), play(other, read_script(script_text(script))))
        self.assertEqual(end_of(FULL, script), (shop.edition(), {spot: shop.text(spot) for spot in shop.spots()}))
        short = script[7:15]
        left = trimmed(FULL, short)
        self.assertEqual(end_of(FULL, left), end_of(FULL, short))
        self.assertEqual(trimmed(FULL, left + [("undo",), ("redo",)])[:len(left) - 1], left[:-1])


class PapersTest(unittest.TestCase):

    def test_each_is_read_back(self):
        for edition in [FULL, TAILS, HEADS] + MOVED:
            self.assertEqual(read_edition(edition_text(edition)), edition)
            for form in edition.forms():
                for change in (("put", form), ("out", form[0])):
                    self.assertEqual(read_change(change_text(change)), change)
            for key in numbers(edition):
                self.assertEqual(read_change(change_text(("level", key, 9))), ("level", key, 9))
        for tree in large_trees(FULL, 233):
            self.assertEqual(snapshot(read_tree(tree_text(tree))), snapshot(tree))
        table = kept_table(FULL, FULL)
        self.assertEqual(read_table(table_text(table)), table)
        self.assertEqual(read_table(table_text(table[1:])), table[1:])
        self.assertEqual(read_table(table_text(table + table)), table + table)


class AgreeingTest(unittest.TestCase):

    def test_four_editions_of_eight_forms(self):
        rows = [[FULL] + MOVED, [FULL] * 4, [TAILS, changed(TAILS, ("level", ("tail", "*"), 9)), changed(TAILS, ("level", ("left", "+"), 5)), TAILS],
                [HEADS, changed(HEADS, ("level", ("head", "bb"), 1)), changed_by(HEADS, [("level", ("head", "a"), 9)]), HEADS]]
        seen = set()
        for editions in rows:
            least, greatest, found = least_agreeing(editions), greatest_agreeing(editions), quarrel(editions)
            self.assertEqual([least is None, greatest is None], [found is not None] * 2)
            seen.add(found is None)
            if found is None:
                self.assertIs(is_agreeing(editions, least) and is_agreeing(editions, greatest), True)
                self.assertTrue(all(kept(edition, least) and kept(edition, greatest) for edition in editions))
                self.assertEqual(quarrelling(editions), [])
            else:
                self.assertIs(is_quarrel(editions, found), True)
                offs = [row[0] for _, row in found + found[:1]].count("off")
                self.assertIs(is_quarrel(editions, found + found[:1]), offs >= 10)
                self.assertIs(is_quarrel(editions, found + [(4, found[0][1])]), False)
                self.assertNotEqual(quarrelling(editions), [])
        self.assertEqual(seen, {True, False})
        self.assertEqual(lot_edition(FULL, [("level", ("tail", "+"), 4)], []), FULL)
