"""Points 105 to 112: edits, and the workshop."""

import random
import unittest

from keptreadings import errors
from keptreadings.editions import Edition, changed_by
from keptreadings.kept import kept
from keptreadings.leading import led_over
from keptreadings.reading import read, standing
from keptreadings.tokens import cut
from keptreadings.workshop import Workshop, edited, met, replayed
from tests import judges, naive
from tests.pairs import some_change
from tests.samples import LET, NOT, PLUS, TIMES, objects, random_editions, snapshot, spoil

PLUS_P, TIMES_P, NOT_P = PLUS[0], TIMES[0], NOT[0]
HERE = Edition([PLUS, TIMES, NOT, LET], ["let"])
LOW = [("level", ("tail", "*"), 3)]
METHODS = ["edition", "editions", "spots", "enter", "close", "edit", "text", "due", "reading", "parted", "change", "change_kept", "lead", "log", "undo", "redo",
           "trial", "attempt", "copy"]


def told(shop):
    """All that a workshop tells, without changing it."""
    rows = [(spot, shop.text(spot), shop.due(spot), shop.reading(spot)) for spot in shop.spots()]
    return snapshot([shop.edition(), shop.editions(), rows, shop.parted(), shop.log()])


def reach(shop):
    """All that can be taken back and made again, told on a copy."""
    other = shop.copy()
    found = [told(other)]
    for step, end in ((other.undo, errors.NothingToUndo), (other.redo, errors.NothingToRedo)):
        while True:
            try:
                step()
            except end:
                break
            found.append(told(other))
    return found


class Model:
    """A workshop told once more: the commands that hold, done anew each time."""

    def __init__(self, edition):
        self.first, self.done, self.undone = edition, [], []

    def state(self):
        row, texts, many = [self.first], {}, 0
        for command in self.done:
            word, thing = command[0], command[1]
            if word == "enter":
                texts[many] = (thing, row[-1], tree_of(row[-1], thing))
                many += 1
            if word == "close":
                del texts[thing]
            if word == "edit":
                begin, end, tokens = command[2]
                text = texts[thing][0][:begin] + tokens + texts[thing][0][end:]
                texts[thing] = (text, row[-1], tree_of(row[-1], text))
            if word in ("change", "change_kept"):
                row = row + [changed_by(row[-1], thing)]
            if word == "lead":
                text, own, due = texts[thing]
                texts[thing] = (led_over(own, row[-1], text), row[-1], due)
        return row, texts

    def told(self):
        row, texts = self.state()
        rows = [(spot, texts[spot][0], texts[spot][2], naive.read(row[-1], texts[spot][0])) for spot in sorted(texts)]
        parted = [spot for spot, _, due, outcome in rows if due is not None and outcome != ("read", due)]
        return snapshot([row[-1], row, rows, parted, self.done])


def tree_of(edition, text):
    outcome = naive.read(edition, text)
    return outcome[1] if outcome[0] == "read" else None


class EditedTest(unittest.TestCase):

    TEXT = ["a", "+", "b"]

    def test_by_hand(self):
        for edit, wanted in (((0, 0, []), "a + b"), ((0, 0, ["("]), "( a + b"), ((3, 3, [")"]), "a + b )"), ((0, 3, []), ""), ((1, 2, ["*"]), "a * b"), ((0, 1, cut("(a * c)")), "(a * c) + b"),
                             ((1, 1, []), "a + b"), ((2, 3, ["'let"]), "a + 'let"), ((0, 3, ["7"]), "7"), ((1, 3, []), "a")):
            text = list(self.TEXT)
            self.assertEqual(edited(text, edit), cut(wanted))
            self.assertEqual(text, self.TEXT)
        self.assertEqual(edited([], (0, 0, [])), [])

    def test_what_is_no_edit(self):
        for wrong in ((2, 1, []), (0, 4, []), (4, 4, []), (1, 0, ["a"]), [0, 1, ["a"]], (0, 1, ("a",)), (True, 1, []), (0, True, []), (False, False, []), (0, 1), (0, 1, [], []), (-1, 1, []),
                      (0, "1", []), (0, 1, ["$"]), (0, 1, "a"), (0, 1, None), None, (0, 1, [None]), ((0, 1), []), {}):
            for call in (lambda: edited(self.TEXT, wrong), lambda: met(HERE, self.TEXT, wrong)):
                with self.assertRaises(errors.InvalidEdit) as caught:
                    call()
                self.assertIs(caught.exception.value, wrong)
            for text in (("a",), ["$"], None):
                with self.assertRaises(errors.InvalidText) as caught:
                    edited(text, wrong)
                self.assertIs(caught.exception.value, text)
                with self.assertRaises(errors.InvalidEdition):
                    met(None, text, wrong)

    def test_spoilt_edits(self):
        tokens = ["x"]
        edit = (0, 1, tokens)
        result = edited(self.TEXT, edit)
        result.clear()
        tokens.append("y")
        self.assertEqual(edited(self.TEXT, edit), ["x", "y", "+", "b"])


class MetTest(unittest.TestCase):

    def test_by_hand(self):
        for line, edit, wanted in (
            ("a + b * c", (0, 1, ["x", "*", "y"]), 1), ("a + b * c", (0, 0, ["("]), None), ("a + b", (2, 3, ["c"]), 0), ("a + b", (3, 3, []), 0), ("a + b", (0, 0, []), 0),
            ("a + b", (2, 3, []), None), ("a + b", (3, 3, ["+", "c"]), 0), ("a + b", (3, 3, ["*", "c"]), None), ("(a) + b", (1, 2, cut("b * c")), 1), ("not a + b", (0, 1, []), 2),
            # A soft word is read by what is behind it.
            ("not a", (0, 0, ["a", "*"]), None), ("a + b", (0, 1, ["not"]), 0), ("a b + c", (0, 1, ["c"]), 0), ("a + + b", (0, 1, ["c"]), 0), ("+ a", (1, 2, ["b"]), None), ("a + ", (0, 1, ["+"]), None),
            ("", (0, 0, []), 0), ("", (0, 0, ["a"]), None), ("let a in b", (1, 2, ["a", "+", "c"]), 1),
        ):
            self.assertEqual(met(HERE, cut(line), edit), wanted, (line, edit))

    def test_against_standing(self):
        source, seen = random.Random(210), set()
        for edition in random_editions(211, 100, 4, 4) + [HERE] * 120:
            tokens = naive.tokens_of(edition)
            for _ in range(6):
                text = some_text(source, edition) + [source.choice(tokens) for _ in range(source.randint(0, 2))]
                if edition == HERE and source.random() < 0.7:
                    text = cut(source.choice(["a + b * c + a", "not a + b * c", "(a + b) * c + a", "let a in b + c * a", "a * b + not c * a"]))
                begin = source.randint(0, len(text))
                edit = (begin, source.randint(begin, len(text)), some_text(source, edition)[:source.randint(0, 3)])
                other, wanted = edited(text, edit), None
                for many in reversed(range(len(text) - edit[1] + 1)):
                    one = standing(edition, text, edit[1] + many)
                    if one is not None and one == standing(edition, other, begin + len(edit[2]) + many):
                        wanted = many
                self.assertEqual(met(edition, text, edit), wanted)
                seen.add((wanted if wanted is None else min(wanted, 2), read(edition, text)[0], read(edition, other)[0]))
        # From there on both are read, or fault at the same token.
        self.assertTrue(all(wanted is None or one == other for wanted, one, other in seen))
        self.assertLessEqual({(None, one, other) for one in ("read", "fault") for other in ("read", "fault")}, seen)
        self.assertLessEqual({(0, "read", "read"), (0, "fault", "fault"), (1, "read", "read"), (2, "read", "read")}, seen)


class WorkshopTest(unittest.TestCase):

    def test_methods_are_its_own(self):
        for name in METHODS + ["__init__"]:
            self.assertIn(name, vars(Workshop))

    def test_a_new_one(self):
        shop = Workshop(edition=HERE)
        self.assertEqual([shop.edition(), shop.editions(), shop.spots(), shop.parted(), shop.log()], [HERE, [HERE], [], [], []])
        self.assertTrue(shop == shop)
        for step, error in ((shop.undo, errors.NothingToUndo), (shop.redo, errors.NothingToRedo)):
            with self.assertRaises(error):
                step()

    def test_arguments_by_name(self):
        shop = Workshop(HERE)
        self.assertEqual(shop.enter(text=["a", "*", "b", "+", "c"]), 0)
        self.assertIsNone(shop.edit(spot=0, edit=(0, 1, ["d"])))
        self.assertEqual([shop.text(spot=0), shop.due(spot=0), shop.reading(spot=0)], [cut("d * b + c"), read(HERE, cut("d * b + c"))[1], read(HERE, cut("d * b + c"))])
        self.assertIsNone(shop.change(changes=LOW))
        self.assertIsNone(shop.change_kept(changes=[]))
        self.assertIsNone(shop.lead(spot=0))
        self.assertEqual(shop.attempt(action=lambda here: here.spots()), [0])
        self.assertIsNone(shop.close(spot=0))
        self.assertEqual(told(replayed(workshop=Workshop(HERE), log=shop.log())), told(shop))


class SpotsTest(unittest.TestCase):

    def test_spots(self):
        shop = Workshop(HERE)
        self.assertEqual([shop.enter(["a"]), shop.enter([]), shop.enter(["a", "+"])], [0, 1, 2])
        shop.close(1)
        self.assertEqual([shop.spots(), shop.enter(["b"])], [[0, 2], 3])
        shop.close(3)
        # One that was closed has had its spot; one that was taken back has not.
        self.assertEqual(shop.enter(["c"]), 4)
        shop.undo()
        self.assertEqual([shop.enter(["d"]), shop.text(4)], [4, ["d"]])
        shop.undo()
        shop.undo()
        shop.undo()
        self.assertEqual([shop.spots(), shop.enter(["e"])], [[0, 2], 3])
        with shop.trial():
            self.assertEqual([shop.enter(["f"]), shop.enter(["g"]), shop.spots()], [4, 5, [0, 2, 3, 4, 5]])
        self.assertEqual([shop.spots(), shop.enter(["h"]), shop.text(4)], [[0, 2, 3], 4, ["h"]])
        for spot in (0, 2, 3, 4):
            shop.close(spot)
        self.assertEqual([shop.spots(), shop.enter([])], [[], 5])

    def test_wrong_spots(self):
        shop = Workshop(HERE)
        shop.enter(["a"])
        shop.enter(["b"])
        shop.close(0)
        before = reach(shop)
        for wrong in (0, 2, -1, True, False, "1", None, (1,), [1], {}, 10 ** 30):
            for call in (lambda: shop.close(wrong), lambda: shop.edit(wrong, None), lambda: shop.text(wrong), lambda: shop.due(wrong), lambda: shop.reading(wrong), lambda: shop.lead(wrong)):
                with self.assertRaises(errors.InvalidSpot) as caught:
                    call()
                self.assertIs(caught.exception.value, wrong)
        for thing in objects():
            if not (isinstance(thing, int) and not isinstance(thing, bool) and thing == 1):
                for call in (shop.close, shop.text, shop.due, shop.reading, shop.lead, lambda spot: shop.edit(spot, (0, 0, []))):
                    with self.assertRaises(errors.InvalidSpot) as caught:
                        call(thing)
                    self.assertIs(caught.exception.value, thing)
        self.assertEqual(reach(shop), before)

    def test_texts_that_are_none(self):
        shop = Workshop(HERE)
        shop.enter(["a", "+", "b"])
        shop.enter(["c"])
        shop.undo()
        before = reach(shop)
        for thing in objects() + [("a",), ["$"], [["a"]]]:
            if isinstance(thing, list) and all(isinstance(token, str) and judges.token(token) for token in thing):
                continue
            with self.assertRaises(errors.InvalidText) as caught:
                shop.enter(thing)
            self.assertIs(caught.exception.value, thing)
        for wrong in [(0, 4, []), (2, 1, []), [0, 1, []], (0, 1, ("a",)), (True, 1, [])] + objects():
            with self.assertRaises(errors.InvalidEdit) as caught:
                shop.edit(0, wrong)
            self.assertIs(caught.exception.value, wrong)
        for thing in objects():
            if not isinstance(thing, Edition):
                with self.assertRaises(errors.InvalidEdition) as caught:
                    Workshop(thing)
                self.assertIs(caught.exception.value, thing)
        self.assertEqual(reach(shop), before)


class DueTest(unittest.TestCase):

    def test_due_trees(self):
        shop = Workshop(HERE)
        shop.enter(cut("a + b * c"))
        shop.enter(cut("a +"))
        tree = read(HERE, cut("a + b * c"))[1]
        self.assertEqual([shop.due(0), shop.due(1), shop.reading(0), shop.reading(1), shop.parted()], [tree, None, ("read", tree), ("fault", 2), []])
        shop.change(LOW)
        newer = shop.edition()
        self.assertEqual(newer, changed_by(HERE, LOW))
        self.assertEqual([shop.due(0), shop.due(1), shop.reading(0), shop.parted()], [tree, None, read(newer, cut("a + b * c")), [0]])
        # A text that is edited now belongs to the edition in use.
        shop.edit(0, (3, 4, ["+"]))
        self.assertEqual([shop.due(0), shop.parted()], [read(newer, cut("a + b + c"))[1], []])
        shop.edit(1, (2, 2, ["b"]))
        self.assertEqual([shop.due(1), shop.parted()], [read(newer, cut("a + b"))[1], []])
        shop.edit(1, (0, 1, []))
        self.assertEqual([shop.due(1), shop.reading(1)], [None, ("fault", 0)])

    def test_parted(self):
        shop = Workshop(HERE)
        for line in ("a + b * c", "a", "not", "a +", "a * b"):
            shop.enter(cut(line))
        shop.change([("hard", "not")])
        # Not read at all; no due tree; read alike.
        self.assertEqual(shop.parted(), [2])
        shop.change([("level", ("tail", "*"), 3), ("level", ("left", "*"), 3)])
        self.assertEqual([shop.parted(), shop.reading(0)[0]], [[0, 2], "read"])
        shop.change([("level", ("tail", "*"), 6), ("level", ("left", "*"), 6), ("soft", "not")])
        self.assertEqual([shop.edition(), shop.parted(), len(shop.editions())], [HERE, [], 4])
        shop.change([("out", TIMES_P)])
        self.assertEqual([shop.parted(), shop.reading(4)], [[0, 4], ("fault", 1)])
        shop.close(0)
        self.assertEqual(shop.parted(), [4])
        # What is at a fault in its own edition is not parted, though it is read now.
        shop.enter(["a", "!"])
        shop.change([("put", (("_", "!"), 9, (0,)))])
        self.assertEqual([shop.reading(5)[0], shop.parted()], ["read", [4]])

    def test_a_change_back_is_no_good_for_what_was_edited(self):
        shop = Workshop(HERE)
        shop.enter(cut("a + b * c"))
        shop.enter(cut("a + b * c"))
        shop.change([("level", ("tail", "*"), 4), ("level", ("left", "*"), 4)])
        shop.edit(0, (0, 0, []))
        self.assertEqual(shop.parted(), [1])
        shop.change([("level", ("tail", "*"), 6), ("level", ("left", "*"), 6)])
        self.assertEqual(shop.parted(), [0])


class ChangeTest(unittest.TestCase):

    def test_changes(self):
        shop = Workshop(HERE)
        shop.enter(["a"])
        shop.change([])
        self.assertEqual([shop.editions(), shop.log()[1:]], [[HERE, HERE], [("change", [])]])
        before = reach(shop)
        for wrong, error, value in (
            (None, errors.InvalidChanges, None), ((), errors.InvalidChanges, ()), ([None], errors.InvalidChanges, [None]), ([("hard", "a", "b")], errors.InvalidChanges, [("hard", "a", "b")]),
            ([("hard", "let")], errors.InvalidChange, ("hard", "let")), ([("hard", "not"), ("hard", "not")], errors.InvalidChange, ("hard", "not")), ([("out", ("x",))], errors.InvalidChange, ("out", ("x",))),
            ([("out", LET[0])], errors.Unsound, ("hard", "let")), ([("put", (("_", "+", "_", "!"), 4, (4, 5)))], errors.Unsound, None), ([("hard", "x")], errors.Unsound, ("hard", "x")),
        ):
            for call in (shop.change, shop.change_kept):
                if value is None and error is errors.Unsound:
                    continue
                with self.assertRaises(error) as caught:
                    call(wrong)
                self.assertEqual(caught.exception.value, value)
        for thing in objects():
            if not isinstance(thing, list) or thing and thing != [("hard", "a")]:
                for call in (shop.change, shop.change_kept):
                    with self.assertRaises(errors.InvalidChanges) as caught:
                        call(thing)
                    self.assertIs(caught.exception.value, thing)
        self.assertEqual(reach(shop), before)

    def test_changes_that_keep(self):
        shop = Workshop(HERE)
        shop.enter(cut("a + b * c"))
        good, bad = [("level", ("left", "*"), 4)], [("level", ("tail", "*"), 4)]
        before = reach(shop)
        with self.assertRaises(errors.Refused) as caught:
            shop.change_kept(bad)
        self.assertIs(caught.exception.value, bad)
        self.assertEqual(reach(shop), before)
        shop.change_kept(good)
        self.assertEqual([shop.edition(), shop.parted(), shop.log()[-1]], [changed_by(HERE, good), [], ("change_kept", good)])
        # ALL texts count, not the open ones alone.
        shop.close(0)
        with self.assertRaises(errors.Refused):
            shop.change_kept([("hard", "not")])
        shop.change_kept([])
        self.assertEqual(len(shop.editions()), 3)

    def test_kept_just_where_all_texts_are(self):
        source, many = random.Random(212), [0, 0]
        for edition in random_editions(213, 120, 4, 4):
            changes = some_change(source, edition, ["a", "b", "+", "-"], 4)
            try:
                newer = changed_by(edition, changes)
            except (errors.InvalidChange, errors.Unsound):
                continue
            shop = Workshop(edition)
            wanted = kept(edition, newer)
            many[wanted] += 1
            try:
                shop.change_kept(changes)
            except errors.Refused as error:
                self.assertIs(error.value, changes)
                self.assertIs(wanted, False)
                self.assertEqual(shop.editions(), [edition])
            else:
                self.assertIs(wanted, True)
                self.assertEqual(shop.editions(), [edition, newer])
        self.assertGreater(min(many), 20)


class LeadTest(unittest.TestCase):

    def test_lead(self):
        shop = Workshop(HERE)
        for line in ("a + b * c", "a", "a +", "not a * b"):
            shop.enter(cut(line))
        shop.change([("level", ("tail", "*"), 4)])
        self.assertEqual(shop.parted(), [0])
        tree = shop.due(0)
        newer = shop.edition()
        for spot in (0, 1, 3):
            text = shop.text(spot)
            shop.lead(spot)
            self.assertEqual(shop.text(spot), led_over(HERE, newer, text))
        self.assertEqual([shop.parted(), shop.text(0), shop.text(1), shop.due(0)], [[], cut("a + (b * c)"), ["a"], tree])
        # Behind this the text is the newer edition's own.
        shop.change([("level", ("tail", "*"), 6)])
        self.assertEqual(shop.edition(), HERE)
        shop.lead(0)
        self.assertEqual([shop.text(0), shop.due(0), shop.parted()], [cut("a + (b * c)"), tree, []])
        before = reach(shop)
        with self.assertRaises(errors.Refused) as caught:
            shop.lead(2)
        self.assertEqual(caught.exception.value, 2)
        self.assertEqual(reach(shop), before)

    def test_led_twice(self):
        shop = Workshop(HERE)
        shop.enter(cut("a + not"))
        tree = shop.due(0)
        shop.change([("put", (("not",), 8, ())), ("hard", "not"), ("out", NOT_P)])
        shop.lead(0)
        self.assertEqual([shop.text(0), shop.due(0)], [cut("a + 'not"), tree])
        shop.change([("level", ("tail", "+"), 0)])
        shop.lead(0)
        self.assertEqual([shop.text(0), shop.due(0), shop.parted()], [cut("a + 'not"), tree, []])

    def test_a_form_that_is_gone(self):
        shop = Workshop(HERE)
        shop.enter(cut("a * b"))
        shop.enter(cut("a + b"))
        shop.change([("out", TIMES_P)])
        with self.assertRaises(errors.Refused) as caught:
            shop.lead(0)
        self.assertEqual(caught.exception.value, 0)
        shop.lead(1)
        shop.change([("put", TIMES)])
        shop.lead(0)
        self.assertEqual([shop.text(0), shop.parted()], [cut("a * b"), []])


class UndoTest(unittest.TestCase):

    def test_every_command(self):
        shop = Workshop(HERE)
        steps = [lambda: shop.enter(cut("a + b * c")), lambda: shop.enter(["a"]), lambda: shop.edit(1, (0, 1, ["b", "+"])), lambda: shop.change(LOW), lambda: shop.lead(0),
                 lambda: shop.change_kept([]), lambda: shop.close(0), lambda: shop.edit(1, (2, 2, ["c"])), lambda: shop.close(1)]
        seen = [told(shop)]
        for step in steps:
            step()
            seen.append(told(shop))
        for many in range(len(steps)):
            for back in range(1, many + 2):
                self.assertIsNone(shop.undo())
                self.assertEqual(told(shop), seen[len(steps) - back])
            for again in range(1, many + 2):
                self.assertIsNone(shop.redo())
                self.assertEqual(told(shop), seen[len(steps) - many - 1 + again])
        with self.assertRaises(errors.NothingToRedo):
            shop.redo()
        for _ in steps:
            shop.undo()
        with self.assertRaises(errors.NothingToUndo):
            shop.undo()
        self.assertEqual(told(shop), seen[0])
        shop.redo()
        self.assertEqual(told(shop), seen[1])

    def test_a_new_command_behind_undo(self):
        shop = Workshop(HERE)
        shop.enter(["a"])
        shop.enter(["b"])
        shop.undo()
        # Asking is no command, nor is a call that raises an error.
        for call, error in ((lambda: shop.text(1), errors.InvalidSpot), (lambda: shop.enter(None), errors.InvalidText), (lambda: shop.change([("hard", "x")]), errors.Unsound),
                            (lambda: shop.change_kept([("hard", "not")]), errors.Refused), (lambda: shop.edit(0, None), errors.InvalidEdit), (lambda: shop.close(3), errors.InvalidSpot)):
            with self.assertRaises(error):
                call()
        told(shop)
        shop.redo()
        self.assertEqual(shop.spots(), [0, 1])
        shop.undo()
        shop.close(0)
        with self.assertRaises(errors.NothingToRedo):
            shop.redo()
        shop.undo()
        shop.redo()
        self.assertEqual([shop.spots(), shop.log()], [[], [("enter", ["a"]), ("close", 0)]])

    def test_random_walks(self):
        source = random.Random(214)
        seen = set()
        for edition in random_editions(215, 25, 4, 4) + [HERE] * 10:
            shop, model = Workshop(edition), Model(edition)
            for _ in range(25):
                walk(source, shop, model, seen)
                self.assertEqual(told(shop), model.told())
            self.assertEqual(told(replayed(Workshop(edition), shop.log())), told(shop))
        self.assertLessEqual({"enter", "close", "edit", "change", "change_kept", "lead", "undo", "redo", "refused"}, seen)


def some_text(source, edition):
    tokens = naive.tokens_of(edition)
    for _ in range(30):
        text = [source.choice(tokens) for _ in range(source.randint(0, 5))]
        if source.random() < 0.2 or naive.read(edition, text)[0] == "read":
            return text
    return ["q"]


def walk(source, shop, model, seen):
    """Make one command, on both, and make sure that one that is refused changes nothing."""
    word = source.choice(["enter", "enter", "close", "edit", "change", "change", "change_kept", "lead", "lead", "undo", "redo"])
    spot = source.choice(shop.spots() + [99]) if source.random() < 0.9 else source.randint(0, 5)
    before = reach(shop)
    command = (word, spot)
    if word == "enter":
        command = (word, some_text(source, shop.edition()))
    if word == "edit" and spot in shop.spots():
        many = len(shop.text(spot))
        begin = source.randint(0, many)
        command = (word, spot, (begin, source.randint(begin, many), some_text(source, shop.edition())[:2]))
    elif word == "edit":
        command = (word, spot, (0, 0, []))
    if word in ("change", "change_kept"):
        command = (word, some_change(source, shop.edition(), ["a", "b", "+", "-"], 4))
    if word in ("undo", "redo"):
        command = (word,)
    try:
        getattr(shop, word)(*command[1:])
    except errors.TongueError:
        assert reach(shop) == before
        seen.add("refused")
        return
    seen.add(word)
    if word == "undo":
        model.undone.append(model.done.pop())
    elif word == "redo":
        model.done.append(model.undone.pop())
    else:
        model.done.append(command)
        model.undone = []


class BlocksTest(unittest.TestCase):

    def ready(self):
        shop = Workshop(HERE)
        shop.enter(cut("a + b * c"))
        shop.change(LOW)
        shop.enter(["a"])
        shop.close(1)
        shop.undo()
        shop.undo()
        return shop

    def test_left_at_its_end(self):
        shop = self.ready()
        before = reach(shop)
        with shop.trial() as inner:
            self.assertIs(inner, shop)
            shop.lead(0)
            shop.enter(["b"])
            shop.change([("out", NOT_P)])
            self.assertEqual(len(shop.log()), 5)
        self.assertEqual(reach(shop), before)
        shop.redo()
        shop.redo()
        self.assertEqual([shop.spots(), len(shop.log())], [[0], 4])

    def test_left_by_an_error(self):
        shop = self.ready()
        before = reach(shop)
        for error in (KeyError("x"), errors.Refused(3), ZeroDivisionError()):
            with self.assertRaises(error.__class__) as caught:
                with shop.trial():
                    shop.undo()
                    shop.enter(["x"])
                    raise error
            self.assertIs(caught.exception, error)
            self.assertEqual(reach(shop), before)

    def test_undo_reaches_behind_the_beginning(self):
        shop = self.ready()
        before = reach(shop)
        with shop.trial():
            shop.undo()
            shop.undo()
            self.assertEqual([shop.log(), shop.editions()], [[], [HERE]])
            with self.assertRaises(errors.NothingToUndo):
                shop.undo()
            shop.enter(["z"])
            with self.assertRaises(errors.NothingToRedo):
                shop.redo()
        self.assertEqual(reach(shop), before)
        with shop.trial():
            shop.redo()
            shop.redo()
            self.assertEqual(shop.spots(), [0])
        self.assertEqual(reach(shop), before)

    def test_blocks_in_blocks(self):
        shop = self.ready()
        before = reach(shop)
        with shop.trial():
            shop.enter(["b"])
            middle = reach(shop)
            with shop.trial():
                shop.undo()
                shop.undo()
                shop.enter(["c"])
                with self.assertRaises(errors.InvalidSpot):
                    with shop.trial():
                        shop.close(0)
                        shop.close(0)
                self.assertEqual(shop.spots(), [0, 1])
            self.assertEqual(reach(shop), middle)
            self.assertEqual(shop.attempt(lambda here: here.attempt(lambda other: other.enter(["d"]))), 2)
            self.assertEqual(reach(shop), middle)
        self.assertEqual(reach(shop), before)

    def test_a_block_begins_when_it_is_entered(self):
        shop = self.ready()
        block = shop.trial()
        shop.enter(["e"])
        before = reach(shop)
        with block:
            shop.enter(["f"])
        self.assertEqual(reach(shop), before)
        self.assertEqual(len(shop.spots()), 2)

    def test_ten_deep(self):
        shop = self.ready()
        before = reach(shop)

        def deeper(many):
            if many == 0:
                return shop.log()
            with shop.trial():
                shop.enter(["x"])
                return deeper(many - 1)
        self.assertEqual(len(deeper(10)), 12)
        self.assertEqual(reach(shop), before)

    def test_attempt(self):
        shop = self.ready()
        before = reach(shop)
        calls, thing = [], {"a": []}

        def action(*given):
            calls.append(given)
            given[0].enter(["x"])
            return thing
        self.assertIs(shop.attempt(action), thing)
        self.assertEqual(len(calls), 1)
        self.assertEqual(len(calls[0]), 1)
        self.assertIs(calls[0][0], shop)
        self.assertIs(shop.attempt(lambda here: here), shop)
        self.assertIsNone(shop.attempt(lambda here: None))
        self.assertEqual(reach(shop), before)
        error = errors.Refused("x")

        def failing(here):
            here.undo()
            raise error
        with self.assertRaises(errors.Refused) as caught:
            shop.attempt(failing)
        self.assertIs(caught.exception, error)
        self.assertEqual(reach(shop), before)


class CopyTest(unittest.TestCase):

    def test_independent(self):
        shop = Workshop(HERE)
        shop.enter(cut("a + b"))
        shop.enter(["c"])
        shop.undo()
        other = shop.copy()
        self.assertIsNot(other, shop)
        self.assertEqual([told(other), reach(other)], [told(shop), reach(shop)])
        before = reach(shop)
        other.change(LOW)
        other.close(0)
        other.undo()
        self.assertEqual(reach(shop), before)
        there = reach(other)
        shop.redo()
        shop.enter(["d"])
        self.assertEqual(reach(other), there)
        self.assertEqual(other.enter(["e"]), 1)

    def test_made_within_a_block(self):
        shop = Workshop(HERE)
        shop.enter(["a"])
        with shop.trial():
            shop.enter(["b"])
            shop.undo()
            other = shop.copy()
            inside = reach(shop)
            other.redo()
        self.assertEqual([other.spots(), shop.spots()], [[0, 1], [0]])
        other.undo()
        self.assertEqual(reach(other), inside)
        with other.trial():
            third = shop.attempt(lambda here: (here.enter(["x"]), here.copy())[1])
            other.enter(["y"])
        self.assertEqual([third.spots(), third.text(1), other.spots(), shop.spots()], [[0, 1], ["x"], [0], [0]])


class ListsTest(unittest.TestCase):

    def test_what_was_given_may_be_changed(self):
        shop = Workshop(HERE)
        text, tokens, changes = cut("a + b * c"), ["d"], [("level", ("tail", "*"), 3)]
        shop.enter(text)
        shop.edit(0, (0, 1, tokens))
        shop.change(changes)
        kept_ones = [("level", ("left", "+"), 0)]
        shop.change_kept(kept_ones)
        before = reach(shop)
        for thing in (text, tokens, changes, kept_ones):
            thing.clear()
            thing.append("spoilt")
        self.assertEqual(reach(shop), before)
        self.assertEqual(shop.log()[1:3], [("edit", 0, (0, 1, ["d"])), ("change", LOW)])
        # A list may be passed again, and is read as it is then.
        row = ["x"]
        shop.enter(row)
        row.append("+")
        shop.enter(row)
        self.assertEqual([shop.text(1), shop.text(2)], [["x"], ["x", "+"]])

    def test_what_was_returned_may_be_changed(self):
        shop = Workshop(HERE)
        shop.enter(cut("a + b * c"))
        shop.edit(0, (0, 1, ["d"]))
        shop.change(LOW)
        shop.lead(0)
        before = reach(shop)
        for _ in range(2):
            for result in (shop.editions(), shop.spots(), shop.text(0), shop.due(0), shop.reading(0), shop.parted(), shop.log(), shop.log()[1], shop.due(0)[1][1]):
                spoil(result)
            self.assertEqual(reach(shop), before)


class LogTest(unittest.TestCase):

    def test_each_command(self):
        shop = Workshop(HERE)
        shop.enter(cut("a + b * c"))
        shop.edit(0, (0, 1, ["d"]))
        shop.change(LOW)
        shop.lead(0)
        shop.change_kept([])
        shop.enter([])
        shop.close(1)
        log = [("enter", cut("a + b * c")), ("edit", 0, (0, 1, ["d"])), ("change", LOW), ("lead", 0), ("change_kept", []), ("enter", []), ("close", 1)]
        self.assertEqual(snapshot(shop.log()), snapshot(log))
        shop.undo()
        self.assertEqual(snapshot(shop.log()), snapshot(log[:-1]))
        shop.redo()
        again = replayed(Workshop(HERE), log)
        self.assertEqual(reach(again), reach(shop))
        # Behind what is there already.
        other = Workshop(HERE)
        other.enter(["x"])
        before = reach(other)
        longer = replayed(other, [("edit", 0, (1, 1, ["*", "y"])), ("enter", ["z"])])
        self.assertEqual([longer.text(0), longer.text(1), len(longer.log())], [cut("x * y"), ["z"], 3])
        self.assertEqual(reach(other), before)
        longer.undo()
        longer.undo()
        self.assertEqual(told(longer), told(other))
        other.undo()
        same = replayed(other, [])
        same.redo()
        self.assertEqual([same.spots(), other.spots()], [[0], []])

    def test_what_is_no_log(self):
        shop = Workshop(HERE)
        before = reach(shop)
        for wrong in ((), (("enter", []),), [["enter", []]], [("enter",)], [("enter", [], [])], [("edit", 0)], [("edit", 0, 0, 1, [])], [("parted",)], [("undo",)], [("try", [])], [("reading", 0)], [()],
                      [None], ["enter"], [("close", 0), ("closed", 0)], [(["enter"], [])], [({}, [])], [("enter", []), ("lead", 0, 0)], None, {}, "enter", [(None, None)], [(1, 2)]):
            with self.assertRaises(errors.InvalidLog) as caught:
                replayed(shop, wrong)
            self.assertIs(caught.exception.value, wrong)
            for other in (None, HERE, [shop]):
                with self.assertRaises(errors.InvalidWorkshop) as caught:
                    replayed(other, wrong)
                self.assertIs(caught.exception.value, other)
        self.assertEqual(reach(shop), before)

    def test_commands_that_are_refused(self):
        shop = Workshop(HERE)
        shop.enter(["a", "+"])
        shop.enter(["b"])
        shop.undo()
        before = reach(shop)
        wrong = ("a",)
        changes = [("hard", "not")]
        for log, error, value in (
            ([("enter", ["b"]), ("enter", wrong), ("close", 9)], errors.InvalidText, wrong), ([("close", 0), ("close", 0)], errors.InvalidSpot, 0), ([("enter", ["b"]), ("lead", True)], errors.InvalidSpot, True),
            ([("enter", ["b"]), ("edit", 1, wrong)], errors.InvalidEdit, wrong), ([("close", 0), ("change", wrong)], errors.InvalidChanges, wrong), ([("enter", []), ("lead", 1)], errors.Refused, 1),
            ([("change", []), ("change_kept", changes)], errors.Refused, changes), ([("change", changes), ("change", changes)], errors.InvalidChange, ("hard", "not")),
            ([("change", [("out", LET[0])])], errors.Unsound, ("hard", "let")), ([("edit", None, None), ("enter", None)], errors.InvalidSpot, None),
        ):
            with self.assertRaises(error) as caught:
                replayed(shop, log)
            self.assertEqual(snapshot(caught.exception.value), snapshot(value))
            self.assertEqual(reach(shop), before)
