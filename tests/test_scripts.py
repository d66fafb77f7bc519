"""Points 115 to 118: scripts, what is said to them, their texts, and what they need for their end."""

import inspect
import random
import unittest

from keptreadings import errors
from keptreadings.editions import Edition, changed_by
from keptreadings.reading import read
from keptreadings.scripts import end_of, play, read_script, script_text, trimmed
from keptreadings.tokens import cut
from keptreadings.workshop import Workshop
from tests import judges
from tests.pairs import some_change
from tests.samples import LET, NOT, PLUS, TIMES, objects, random_editions, snapshot, spoil
from tests.test_papers import misspelt
from tests.test_workshop import reach, some_text, told

HERE = Edition([PLUS, TIMES, NOT, LET], ["let"])
LOW = [("level", ("tail", "*"), 3)]
DAY = [("enter", cut("a + b * c")), ("change", LOW), ("parted",), ("try", [("close", 0), ("undo",), ("try", [])]), ("edit", 0, (3, 1, [])), ("lead", 0), ("reading", 0),
       ("change_kept", []), ("redo",), ("undo",), ("edit", 0, (0, 1, ["'let"])), ("close", 7)]


def is_script(value):
    """Whether any object is a script, told once more."""
    if not isinstance(value, list):
        return False
    for command in value:
        if not isinstance(command, tuple) or not command or not isinstance(command[0], str):
            return False
        kind, rest = (command[0], len(command)), command[1:]
        right = (
            kind in (("parted", 1), ("undo", 1), ("redo", 1)) or (kind == ("enter", 2) and judges.text(rest[0])) or (kind[0] in ("close", "lead", "reading") and len(rest) == 1 and judges.count(rest[0]))
            or (kind[0] in ("change", "change_kept") and len(rest) == 1 and judges.changes(rest[0])) or (kind == ("try", 2) and is_script(rest[0]))
            or (kind == ("edit", 3) and judges.count(rest[0]) and isinstance(rest[1], tuple) and len(rest[1]) == 3 and judges.count(rest[1][0]) and judges.count(rest[1][1]) and judges.text(rest[1][2]))
        )
        if not right:
            return False
    return True


def some_script(source, edition, many, deep):
    """A script with every kind of command, most of which can be done."""
    script = []
    for _ in range(many):
        word = source.choice(["enter", "enter", "close", "edit", "edit", "change", "change", "change_kept", "lead", "reading", "parted", "undo", "undo", "redo", "try"])
        spot = source.randint(0, 3)
        if word == "enter":
            script.append((word, some_text(source, edition)))
        elif word == "edit":
            script.append((word, spot, (source.randint(0, 3), source.randint(0, 3), some_text(source, edition)[:2])))
        elif word in ("change", "change_kept"):
            script.append((word, some_change(source, edition, ["a", "b", "+", "-"], 4) if source.random() < 0.9 else []))
        elif word == "try":
            if deep > 0:
                script.append((word, some_script(source, edition, source.randint(0, 4), deep - 1)))
        else:
            script.append((word,) if word in ("parted", "undo", "redo") else (word, spot))
    return script


def said_by_hand(shop, script):
    """What is said, by the methods of the workshop."""
    said = []
    for command in script:
        word = command[0]
        if word == "try":
            with shop.trial():
                said.append(("tried", said_by_hand(shop, command[1])))
            continue
        try:
            result = getattr(shop, word)(*command[1:])
        except errors.TongueError as error:
            said.append(("refused", error.__class__.__name__))
        else:
            said.append({"enter": ("entered", result), "reading": ("reading", result), "parted": ("parted", result)}.get(word, ("done",)))
    return said


class WrongTest(unittest.TestCase):

    def test_what_is_no_script(self):
        calls = (lambda script: play(Workshop(HERE), script), script_text, lambda script: end_of(HERE, script), lambda script: trimmed(HERE, script))
        wrong_ones = [
            (), ("parted",), (("parted",),), [["parted"]], [("parted", 0)], [("enter",)], [("enter", ("a",))], [("enter", ["$"])], [("enter", ["a"], 1)], [("close", True)], [("close", -1)], [("close", "0")], [("close",)],
            [("edit", 0, [0, 0, []])], [("edit", 0, (0, 0))], [("edit", 0, (0, 0, ()))], [("edit", 0, (False, 0, []))], [("edit", 0, (0, -1, []))], [("edit", True, (0, 0, []))], [("edit", 0, (0, 0, ["$"]))],
            [("edit", 0, 0, 0, [])], [("edit", (0, 0, []))], [("change", ())], [("change", [["hard", "a"]])], [("change", [("hard", "+")])], [("change_kept", None)], [("change", [None])], [("lead", None)],
            [("reading",)], [("undo", 1)], [("redo", None)], [("try", ())], [("try", [("enter",)])], [("try", [("try", [("close", True)])])], [("try",)], [("text", 0)], [("spots",)], [("log",)], [("copy",)],
            [()], [None], ["undo"], [(["undo"],)], [({},)], [("parted",), ("enter", 0)], None, {}, "", [("Enter", [])], [(1, [])], [("enter", None)],
        ]
        for wrong in wrong_ones + [thing for thing in objects() if not is_script(thing)]:
            self.assertIs(is_script(wrong), False, wrong)
            for call in calls:
                with self.assertRaises(errors.InvalidScript) as caught:
                    call(wrong)
                self.assertIs(caught.exception.value, wrong)

    def test_wrong_workshops_and_editions(self):
        for thing in objects():
            if not isinstance(thing, Workshop):
                with self.assertRaises(errors.InvalidWorkshop) as caught:
                    play(thing, None)
                self.assertIs(caught.exception.value, thing)
            if not isinstance(thing, Edition):
                for call in (end_of, trimmed):
                    with self.assertRaises(errors.InvalidEdition) as caught:
                        call(thing, None)
                    self.assertIs(caught.exception.value, thing)
        self.assertEqual(list(inspect.signature(play).parameters), ["shop", "script"])
        self.assertEqual(play(script=[("enter", [])], shop=Workshop(HERE)), [("entered", 0)])

    def test_a_workshop_is_not_changed_by_what_is_no_script(self):
        shop = Workshop(HERE)
        shop.enter(["a"])
        shop.undo()
        before = reach(shop)
        with self.assertRaises(errors.InvalidScript):
            play(shop, [("enter", ["b"]), ("try", [("undo", 1)])])
        self.assertEqual(reach(shop), before)


class PlayTest(unittest.TestCase):

    def test_each_command(self):
        shop = Workshop(HERE)
        tree = read(HERE, cut("a + b * c"))[1]
        newer = changed_by(HERE, LOW)
        self.assertEqual(play(shop, DAY), [
            ("entered", 0), ("done",), ("parted", [0]), ("tried", [("done",), ("done",), ("tried", [])]), ("refused", "InvalidEdit"), ("done",), ("reading", ("read", tree)), ("done",),
            ("refused", "NothingToRedo"), ("done",), ("done",), ("refused", "InvalidSpot"),
        ])
        self.assertEqual([shop.text(0), shop.edition(), len(shop.editions())], [cut("'let + (b * c)"), newer, 2])
        self.assertEqual([command[0] for command in shop.log()], ["enter", "change", "lead", "edit"])
        self.assertEqual(play(shop, []), [])

    def test_errors_by_the_name_of_their_class(self):
        shop = Workshop(HERE)
        said = play(shop, [
            ("undo",), ("redo",), ("close", 0), ("lead", 0), ("reading", 0), ("edit", 0, (0, 0, [])), ("enter", ["a"]), ("edit", 0, (0, 2, [])), ("edit", 0, (1, 0, [])), ("change", [("hard", "let")]),
            ("change", [("hard", "x")]), ("change_kept", [("out", ("z",))]), ("change_kept", [("hard", "not")]), ("change_kept", [("out", LET[0])]), ("enter", ["+"]), ("lead", 1), ("close", 10 ** 29),
        ])
        self.assertEqual([row[1] for row in said if row[0] == "refused"], [
            "NothingToUndo", "NothingToRedo", "InvalidSpot", "InvalidSpot", "InvalidSpot", "InvalidSpot", "InvalidEdit", "InvalidEdit", "InvalidChange", "Unsound", "InvalidChange", "Refused", "Unsound",
            "Refused", "InvalidSpot",
        ])
        self.assertEqual(len(shop.log()), 2)

    def test_tries(self):
        shop = Workshop(HERE)
        shop.enter(["a"])
        shop.enter(["b"])
        shop.undo()
        before = reach(shop)
        # Undo reaches behind the beginning of a try; what can be made again comes back, too.
        said = play(shop, [("try", [("undo",), ("undo",), ("enter", ["c"]), ("try", [("close", 0), ("close", 0), ("redo",)]), ("reading", 0), ("redo",)]), ("try", [("redo",), ("parted",)])])
        self.assertEqual(said, [("tried", [("done",), ("refused", "NothingToUndo"), ("entered", 0), ("tried", [("done",), ("refused", "InvalidSpot"), ("refused", "NothingToRedo")]),
                                           ("reading", ("read", ("name", "c"))), ("refused", "NothingToRedo")]), ("tried", [("done",), ("parted", [])])])
        self.assertEqual(reach(shop), before)
        self.assertEqual(play(shop, [("redo",), ("reading", 1)]), [("done",), ("reading", ("read", ("name", "b")))])

    def test_by_the_methods(self):
        source, seen = random.Random(220), set()
        for edition in random_editions(221, 40, 4, 4) + [HERE] * 20:
            for _ in range(3):
                script = some_script(source, edition, 10, 3)
                self.assertIs(is_script(script), True)
                before = snapshot(script)
                shop, other = Workshop(edition), Workshop(edition)
                said = play(shop, script)
                self.assertEqual(snapshot(said), snapshot(said_by_hand(other, script)))
                self.assertEqual(reach(shop), reach(other))
                self.assertEqual(snapshot(script), before)
                seen.update([row[1] if row[0] == "refused" else row[0] for row in said])
                self.assertEqual(play(shop.copy(), script), play(other, script))
        self.assertLessEqual({"entered", "reading", "parted", "tried", "done", "InvalidSpot", "InvalidEdit", "Refused", "NothingToUndo", "NothingToRedo", "InvalidChange"}, seen)

    def test_what_was_passed_and_said_may_be_changed(self):
        shop, script = Workshop(HERE), [("enter", ["a"]), ("change", [("level", ("tail", "*"), 3)]), ("edit", 0, (0, 1, ["b"])), ("reading", 0), ("parted",), ("try", [("reading", 0)])]
        said = play(shop, script)
        before = reach(shop)
        spoil(script)
        spoil(said)
        self.assertEqual(reach(shop), before)
        # A script that was played may be changed and played again.
        row = [("enter", ["a"])]
        play(shop, row)
        row.append(("enter", ["b"]))
        self.assertEqual(play(shop, row), [("entered", 2), ("entered", 3)])


class TextTest(unittest.TestCase):

    def test_by_hand(self):
        for script, text in (
            ([], ""), ([("enter", [])], "enter"), ([("enter", cut("a + 'b * (7)"))], "enter a + 'b * ( 7 )"), ([("close", 0)], "close 0"), ([("edit", 3, (10, 2, []))], "edit 3 10 2"),
            ([("edit", 0, (1, 2, ["3", "x"]))], "edit 0 1 2 3 x"), ([("change", [])], "change\nend"), ([("change", [("hard", "end"), ("put", PLUS)])], "change\n  hard end\n  put 4 _4 + _5\nend"),
            ([("change_kept", [("out", ("end",))])], "change_kept\n  out end\nend"), ([("lead", 12)], "lead 12"), ([("reading", 1)], "reading 1"), ([("parted",), ("undo",), ("redo",)], "parted\nundo\nredo"),
            ([("try", [])], "try\nend"), ([("try", [("undo",), ("try", [("change", LOW)]), ("enter", ["end"])]), ("undo",)],
                                          "try\n  undo\n  try\n    change\n      level tail * 3\n    end\n  end\n  enter end\nend\nundo"),
            ([("close", 10 ** 29)], "close 1" + "0" * 29), ([("enter", ["enter", "try", "end"])], "enter enter try end"),
        ):
            self.assertEqual(script_text(script), text)
            self.assertEqual(snapshot(read_script(text)), snapshot(script))

    def test_counts_of_any_size(self):
        for count in (0, 9, 10, 10 ** 10 - 1, 10 ** 10, 10 ** 10 + 1, 10 ** 20 + 5, 10 ** 29 - 1, 123456789012345678901234567890):
            self.assertEqual(script_text([("edit", count, (count, 0, ["7"]))]), "edit {0} {0} 0 7".format(count))
            self.assertEqual(read_script("lead {}".format(count)), [("lead", count)])
        # Far beyond the limit nothing is an error for this alone.
        huge = 10 ** 5000 + 7
        text = script_text([("close", huge)])
        self.assertEqual([len(text), text[:8], text[-3:], read_script(text) == [("close", huge)]], [5007, "close 10", "007", True])

    def test_each_is_read_back(self):
        source = random.Random(222)
        for edition in random_editions(223, 25, 4, 9) + [HERE] * 10:
            script = some_script(source, edition, 8, 3)
            text = script_text(script)
            self.assertEqual(snapshot(read_script(text)), snapshot(script))
            for other in misspelt(source, text, 15):
                try:
                    found = read_script(other)
                except errors.InvalidText as error:
                    self.assertIs(error.value, other)
                else:
                    self.assertEqual(script_text(found), other)

    def test_texts_that_no_script_has(self):
        for text in (
            "\n", " ", "enter ", "enter  a", " enter a", "enter a ", "enter a\n", "\nenter a", "enter a+b", "enter (a)", "enter $", "enter 07", "enter\ta", "Enter a", "enter a\r\nundo", "close", "close 00", "close 07",
            "close -1", "close +1", "close 1 2", "close a", "close  1", "close 1 ", "lead", "lead x", "reading 1 a", "edit 0", "edit 0 1", "edit 0 1 x", "edit 0 1 2 ", "edit 0 01 2", "edit 0 1 2 +b", "edit 0 1 2  b",
            "parted 0", "undo ", " undo", "redo 1", "redo\n", "change", "change\n", "end", "undo\nend", "change\nend\nend", "change\n  end\nend", "change\nhard a\nend", "change\n hard a\nend", "change\n   hard a\nend",
            "change\n  hard a \nend", "change\n  undo\nend", "change\n  hard a\n end", "change \nend", "try", "try\n  undo", "try\nundo\nend", "try\n    undo\nend", "try\n  undo\n  end", "try\n  try\n  end", "try\n  try\n end\nend",
            "try\nend\nend", "try end", "try\n  undo\nend\n", "try\n  undo\nend \n", "try\n\nend", "try\n  change\n  hard a\n  end\nend", "change\n  try\n  end\nend", "undo\n\nundo", "text 0", "spots", "close 1\n  close 2",
            "close 0x1", "close 1_0", "change_kept\n  put 4 _4 + _10\nend", "parted\nparted ", "try\n  try\n    undo\n  end\n  end\nend",
        ):
            with self.assertRaises(errors.InvalidText) as caught:
                read_script(text)
            self.assertIs(caught.exception.value, text)
        for thing in objects() + [["enter a"], ("undo",)]:
            if thing != "":
                with self.assertRaises(errors.InvalidText) as caught:
                    read_script(thing)
                self.assertIs(caught.exception.value, thing)


class EndTest(unittest.TestCase):

    def test_ends(self):
        for script, edition, texts in (
            ([], HERE, {}), ([("enter", ["a"]), ("close", 0), ("enter", ["b"])], HERE, {1: ["b"]}), ([("enter", ["a"]), ("try", [("enter", ["b"]), ("close", 0), ("change", LOW)])], HERE, {0: ["a"]}),
            ([("close", 3), ("enter", []), ("change", [("hard", "x")]), ("undo",), ("redo",)], HERE, {0: []}),
            ([("enter", cut("a + b * c")), ("change", LOW), ("lead", 0), ("enter", ["7"])], changed_by(HERE, LOW), {0: cut("a + (b * c)"), 1: ["7"]}),
            ([("enter", ["a"]), ("enter", ["b"]), ("undo",), ("undo",), ("redo",)], HERE, {0: ["a"]}),
        ):
            found = end_of(HERE, script)
            self.assertEqual(repr(found[1]), repr(texts))
            self.assertEqual(found[0], edition)
            self.assertEqual(found, end_of(edition=HERE, script=script))

    def test_by_play(self):
        source = random.Random(224)
        for edition in random_editions(225, 40, 4, 4):
            script = some_script(source, edition, 9, 2)
            shop = Workshop(edition)
            play(shop, script)
            self.assertEqual(snapshot(end_of(edition, script)), snapshot((shop.edition(), {spot: shop.text(spot) for spot in shop.spots()})))


class TrimmedTest(unittest.TestCase):

    def test_by_hand(self):
        enter, close, other = ("enter", ["a"]), ("close", 0), ("enter", ["b"])
        for script, wanted in (
            ([], []), ([("parted",), ("reading", 0), ("undo",)], []), ([("try", [enter, close]), enter, ("try", [])], [enter]),
            ([enter, ("edit", 0, (0, 1, ["b"]))], [enter, ("edit", 0, (0, 1, ["b"]))]), ([enter, ("edit", 0, (0, 1, ["a"]))], [enter]),
            ([("change", LOW), ("change", [("level", ("tail", "*"), 6)])], [("change", [("level", ("tail", "*"), 6)])]), ([("change", []), ("change_kept", [])], []),
            # One that is needed for another one alone; one that is refused.
            ([enter, close, other], [enter, close, other]), ([enter, other, close], [enter, other, close]), ([close, enter, ("lead", 5), ("change", [("hard", "x")])], [enter]),
            ([enter, ("parted",), other, ("undo",)], [enter, other, ("undo",)]), ([enter, ("undo",), ("redo",)], [enter, ("redo",)]), ([enter, ("undo",), enter], [("undo",), enter]),
            # From the last one on: what takes back stays, though then there is nothing to take back.
            ([enter, ("undo",)], [("undo",)]), ([enter, close], [close]),
        ):
            self.assertEqual(snapshot(trimmed(HERE, script)), snapshot(wanted), script)

    def test_by_its_words(self):
        source, seen = random.Random(226), set()
        for edition in random_editions(227, 60, 4, 4) + [HERE] * 20:
            for _ in range(2):
                script = some_script(source, edition, source.randint(0, 7), 2)
                before = snapshot(script)
                found = trimmed(edition, script)
                self.assertEqual(snapshot(found), snapshot(trimmed_by_hand(edition, script)))
                self.assertEqual(snapshot(script), before)
                self.assertEqual(end_of(edition, found), end_of(edition, script))
                seen.add((len(found) == len(script), len(found) > 0))
                spoil(found)
                self.assertEqual(snapshot(script), before)
        self.assertEqual(len(seen), 4)

    def test_a_try_is_one(self):
        # Tries are left out whole, and never in part.
        script = [("try", [("parted",)]), ("enter", ["a"]), ("try", [("undo",)]), ("try", [("enter", ["b"]), ("try", [("undo",), ("undo",)])])]
        self.assertEqual(trimmed(HERE, script), [("enter", ["a"])])


def trimmed_by_hand(edition, script):
    """[118], word by word: from the last to the first, each without which the end is the same."""
    left = list(range(len(script)))
    whole = snapshot(end_of(edition, script))
    for at in range(len(script) - 1, -1, -1):
        rest = [by for by in left if by != at]
        if snapshot(end_of(edition, [script[by] for by in rest])) == whole:
            left = rest
    return [script[by] for by in left]


class TellingTest(unittest.TestCase):

    def test_the_same_by_the_text_and_again(self):
        source = random.Random(228)
        for edition in random_editions(229, 20, 4, 4):
            script = some_script(source, edition, 10, 3)
            one, other = Workshop(edition), Workshop(edition)
            self.assertEqual(play(one, script), play(other, read_script(script_text(script))))
            self.assertEqual(told(one), told(other))
