"""Point 3 for sections 9 to 15: calls at the limits are answered, and take what they returned again."""

import random
import unittest

from keptreadings.adding import added, harmful, is_shown, lost_reasons, reasons, shown, softened, stand_apart, taken_out
from keptreadings.alike import are_alike, height, height_chain, is_height_chain, is_two_form_text, normal, reduced_table, two_form_text, unlike_row
from keptreadings.blame import are_blame_texts, blame_texts, breaking_lots, broken_without, is_broken_without, kept_lots, lot_edition, needed_forms
from keptreadings.editions import Edition, changed, changed_by, numbers
from keptreadings.kept import deed, first_deed, is_kept_table, is_kept_text, kept, kept_along, kept_table, shared_frames
from keptreadings.marks import apart, are_apart, are_least_marks, fewest_marks, kinds, least_marks, marked, need_ways, reads_to, unmet
from keptreadings.rooms import are_room_ends, broken_rows, greatest_keeping, is_looser, is_used_text, least_keeping, loosest, room_ends, rooms
from keptreadings.rooms import used_rows, used_text
from keptreadings.shortest import is_parting_text, is_unlike_text, parting_names, parting_size, parting_text, unlike_text
from keptreadings.trees import paths
from tests import naive_pairs
from tests.test_limits import FORMS, FULL, raised_levels
from tests.test_shortest import chain

CHANGES = [("level", ("tail", "+"), 4), ("level", ("head", "a"), 3), ("soft", "a"), ("level", ("left", "+"), 7)]
NEWER = changed_by(FULL, CHANGES[:2])
# Eight tails, with fourteen tokens; and eight heads, each of which may stand on some.
TAILS = Edition([(("_", sign, "_", middle, "_"), at, (at, at + 1, at)) for at, (sign, middle) in enumerate(zip("+-*/<>", "?:!;|^"))]
                + [(("_", sign, "_"), at, (at, at + 1)) for at, sign in enumerate("=&", 6)], [])
HEADS = Edition([(("ab"[at % 2] * (at // 2 + 1), "_") + (("+-*/<>"[at],) if at < 6 else ()), at, (at,)) for at in range(8)], [])
PAIRS = [(FULL, FULL), (FULL, NEWER), (TAILS, TAILS), (TAILS, changed(TAILS, ("level", ("tail", "*"), 9))), (HEADS, HEADS),
         (HEADS, changed(HEADS, ("level", ("head", "bb"), 1))), (FULL, TAILS), (TAILS, HEADS), (HEADS, FULL)]


def long_texts(edition):
    """Texts of sixty tokens, read and not."""
    source = random.Random(4)
    tokens = edition.grammar.fixed() + ["(", ")", "0", "x"]
    return [["("] * 29 + ["x", "x"] + [")"] * 29, ["("] * 30 + [")"] * 30, ["x", "+"] * 30] + [[source.choice(tokens) for _ in range(60)] for _ in range(3)]


class PairsAtTheLimitTest(unittest.TestCase):

    def test_the_editions_are_at_the_limit(self):
        for edition in (FULL, TAILS, HEADS):
            self.assertEqual((len(edition.forms()), len(edition.grammar.fixed())), (8, 14))

    def test_kept(self):
        for elder, newer in PAIRS:
            self.assertIs(kept(elder, newer), parting_size(elder, newer) is None)
            self.assertIs(kept_table(elder, newer) is None, not kept(elder, newer))
            self.assertIn(("bracket",), shared_frames(elder, newer))
            for text in long_texts(elder):
                self.assertEqual(len(text), 60)
                self.assertIs(is_kept_text(elder, newer, text), not naive_pairs.broken(elder, newer, text))
        self.assertIs(kept_along([FULL] * 4), True)
        self.assertIs(kept_along([FULL, FULL, FULL, NEWER]), False)
        for frame in shared_frames(FULL, FULL):
            for token in FULL.grammar.fixed():
                self.assertIn(deed(FULL, None, frame, token)[0], ("take", "tail", "end", "fault"))
                self.assertIn(first_deed(FULL, frame, token, "x")[0], ("name", "head", "fault"))

    def test_tables(self):
        # A table of eight forms is passed again, with one row more and one less.
        for edition in (FULL, TAILS, HEADS):
            rows = kept_table(edition, edition)
            self.assertIs(is_kept_table(edition, edition, rows), True)
            for at in (0, len(rows) // 2, len(rows) - 1):
                self.assertIs(is_kept_table(edition, edition, rows[:at] + rows[at + 1:]), False)
            self.assertIs(is_kept_table(edition, edition, rows + rows[:1]), False)
        four = Edition(FORMS[:4], ["a"])
        rows = kept_table(four, FULL)
        self.assertEqual(rows is None, not kept(four, FULL))
        rows = kept_table(four, four)
        self.assertIs(is_kept_table(four, four, rows + [("elder", None, ("form", ("a", "_")), "c")]), True)

    def test_shortest(self):
        for elder, newer in PAIRS:
            text = parting_text(elder, newer)
            if text is not None:
                self.assertEqual(len(text), parting_size(elder, newer))
                self.assertIs(is_parting_text(elder, newer, text), True)
                self.assertIs(is_parting_text(elder, newer, text + ["x"]), False)
                self.assertIs(is_parting_text(elder, newer, text[1:]), False)
            both = unlike_text(elder, newer)
            self.assertIs(is_unlike_text(elder, newer, both), both is not None)
            self.assertEqual(parting_names(elder, newer), [word for word in newer.hard() if word not in elder.hard()])

    def test_long_chains(self):
        # Eight forms, each of which stands just on the next one.
        elder = chain(6, 7)
        self.assertEqual(len(elder.forms()), 8)
        text = parting_text(elder, changed(elder, ("level", ("hole", ("f", "_")), 0)))
        self.assertEqual(len(text), 9)
        self.assertEqual(len(naive_pairs.patterns_in(naive_pairs.reading(elder, text).outcome()[1])), 8)
        # Places of seven items that have to be led to and ended.
        long = [(("a", "_", "b", "_", "c", "_", "d"), 3, (3, 3, 4)), (("e", "_", "f", "_", "g", "_", "h"), 4, (4, 4, 5)),
                (("i", "_", "j", "_", "k", "_", "l"), 5, (5, 5, 6)), (("_", "!", "_"), 6, (0, 7)), (("p", "_"), 6, (7,))]
        one = Edition(long, [])
        for key, level in ((("hole", ("p", "_")), 6), (("tail", "!"), 4), (("head", "i"), 3)):
            other = changed(one, ("level", key, level))
            text = parting_text(one, other)
            self.assertIs(text is None, kept(one, other))
            self.assertIs(is_parting_text(one, other, text), text is not None)

    def test_alike(self):
        for one, other in [(one, other) for one, other in PAIRS if [form[0] for form in one.forms()] == [form[0] for form in other.forms()]]:
            self.assertIs(are_alike(one, other), unlike_row(one, other) is None)
            text = two_form_text(one, other)
            self.assertIs(text is None, are_alike(one, other))
            if text is not None:
                self.assertIs(is_two_form_text(one, other, text), True)
                self.assertIs(is_two_form_text(one, other, text + ["x"]), False)
        for edition in (FULL, TAILS, HEADS):
            self.assertEqual(reduced_table(normal(edition)), reduced_table(edition))
            keys = height_chain(edition)
            self.assertIs(is_height_chain(edition, keys), True)
            self.assertIs(is_height_chain(edition, keys + keys[:1]), False)
            self.assertLessEqual(height(edition), 9)
        self.assertEqual([height(edition) for edition in (FULL, TAILS, HEADS)], [0, 8, 7])

    def test_rooms(self):
        for edition in (FULL, TAILS, HEADS):
            for row in used_rows(edition)[::9]:
                text = used_text(edition, row)
                self.assertIs(is_used_text(edition, row, text), True)
                self.assertIs(is_used_text(edition, row, text + ["x"]), False)
            told = rooms(edition)
            self.assertEqual(list(told), list(numbers(edition)))
            for key in list(told)[::5]:
                ends = room_ends(edition, key)
                self.assertIs(are_room_ends(edition, key, ends), True)
                self.assertIs(are_room_ends(edition, key, ends + (None,)), False)
            for newer in (loosest(edition), least_keeping(edition), greatest_keeping(edition)):
                self.assertIs(kept(edition, newer), True)
                self.assertEqual(broken_rows(edition, newer), [])
            self.assertIs(is_looser(edition, loosest(edition)), True)
        self.assertNotEqual(broken_rows(FULL, NEWER), [])


class AddingAtTheLimitTest(unittest.TestCase):

    def test_adding(self):
        for edition in (FULL, TAILS, HEADS):
            for form in (("z", "_", "+"), 1, (1,)), (("_", ".", "_"), 3, (3, 3)), (("z", "_", "y", "_"), 1, (1, 1)), (("*", "_"), 2, (2,)), (("w",), 1, ()):
                hard = [form[0][0]] if len(form[0]) == 1 else []
                try:
                    newer = added(edition, [form], hard)
                except ValueError:
                    continue
                self.assertEqual(len(newer.forms()), 9)
                self.assertIs(stand_apart(edition, [form], hard), not [item for item in form[0] if item in edition.grammar.fixed()])
                found = reasons(edition, form, hard)
                self.assertEqual(harmful(edition, [form], hard), [0] if found else [])
                self.assertIs(kept(edition, newer), found == [])
                for reason in found:
                    text = shown(edition, form, hard, reason)
                    self.assertIs(is_shown(edition, form, hard, reason, text), True)
                    self.assertIs(is_shown(edition, form, hard, reason, text + [")"]), False)
        self.assertEqual(len(softened(FULL, "a")), 7)
        for edition in (FULL, TAILS, HEADS):
            patterns = [form[0] for form in edition.forms()]
            for out in ([], patterns[:1], patterns[3:6], patterns):
                less = taken_out(edition, out)
                self.assertEqual(len(less.forms()), 8 - len(out))
                self.assertEqual(lost_reasons(edition, out), [])

    def test_blame(self):
        self.assertEqual(len(CHANGES), 4)
        lots, texts = breaking_lots(FULL, CHANGES), blame_texts(FULL, CHANGES)
        self.assertEqual(lots, [[0], [1], [2], [3]])
        self.assertEqual(kept_lots(FULL, CHANGES), [[]])
        self.assertIs(are_blame_texts(FULL, CHANGES, texts), True)
        self.assertIs(are_blame_texts(FULL, CHANGES, texts[1:]), False)
        self.assertIs(are_blame_texts(FULL, CHANGES, texts + texts[:1]), False)
        self.assertEqual(lot_edition(FULL, CHANGES, [0, 1, 2, 3]), changed_by(FULL, CHANGES))
        mild = [("level", ("left", "+"), 3), ("level", ("head", "a"), 9), ("level", ("hole", ("a", "_")), 0), ("level", ("left", "+"), 1)]
        self.assertEqual([breaking_lots(FULL, mild), kept_lots(FULL, mild)], [[], [[0, 1, 2, 3]]])
        for elder, newer in PAIRS:
            needed = needed_forms(elder, newer)
            self.assertIs(needed is None, kept(elder, newer))
            for pattern in [form[0] for form in elder.forms()]:
                text = broken_without(elder, newer, pattern)
                self.assertIs(is_broken_without(elder, newer, pattern, text), text is not None)
                if text is not None:
                    self.assertIs(is_broken_without(elder, newer, pattern, text + ["x"]), False)

    def test_marks(self):
        names = [("name", word) for word in ("a", "b", "f", "k", "x")]
        source = random.Random(5)
        for edition in (FULL, TAILS, HEADS, Edition(raised_levels(FORMS, 3), [])):
            patterns = [form[0] for form in edition.forms()]
            singles = [pattern for pattern in patterns if pattern.count("_") == 1] or patterns
            deep, broad = names[4], names[4]
            for _ in range(39):
                pattern = source.choice(singles)
                if len(paths(deep)) + pattern.count("_") <= 40:
                    deep = (pattern, [deep] + [source.choice(names) for item in pattern if item == "_"][1:])
                pattern = source.choice(patterns)
                if len(paths(broad)) + pattern.count("_") <= 40:
                    below = [source.choice(names) for item in pattern if item == "_"]
                    below[source.randrange(len(below))] = broad
                    broad = (pattern, below)
            for tree in (deep, broad):
                self.assertGreaterEqual(len(paths(tree)), 38)
                marks, ways = least_marks(edition, tree), need_ways(edition, tree)
                self.assertEqual(len(marks), fewest_marks(edition, tree))
                self.assertIs(reads_to(edition, tree, marks), True)
                self.assertIs(reads_to(edition, tree, paths(tree)), True)
                self.assertEqual(reads_to(edition, tree, []), not ways)
                self.assertIsNone(unmet(edition, tree, marks))
                self.assertGreaterEqual(len(marked(tree, paths(tree))), 2 * len(paths(tree)) - 20)
                self.assertIs(are_least_marks(edition, tree, marks), True)
                more = sorted(set(marks + [paths(tree)[-1], ()]))
                self.assertIs(are_least_marks(edition, tree, more), more == marks)
                self.assertIs(are_least_marks(edition, tree, marks[1:]), not marks)
                chosen = apart(edition, tree)
                self.assertIs(are_apart(edition, tree, chosen), True)
                self.assertIs(are_apart(edition, tree, chosen[1:]), not chosen)
                self.assertIs(are_apart(edition, tree, chosen + chosen[:1]), not chosen)
                for way in ways:
                    self.assertNotEqual(kinds(edition, tree, way), [])
