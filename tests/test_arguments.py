"""Points 1 and 2, for every function: arguments right and wrong, errors in order, nothing changed."""

import inspect
import unittest

from keptreadings import adding, agreeing, alike, blame, coming, editions, errors, exchange, kept, leading, marks, papers, reading, rooms
from keptreadings import scripts, shortest, stacks, tokens, trees, ways, workshop
from keptreadings.editions import Edition
from tests import judges
from tests.pairs import random_pairs
from tests.samples import LET, NOT, PLUS, TIMES, objects, snapshot, spoil

HERE, LESS = Edition([PLUS, TIMES, LET, NOT], ["let"]), Edition([PLUS, NOT], [])
SAME = Edition([PLUS, (("_", "*", "_"), 3, (3, 4)), LET, NOT], ["let"])
MODULES = (tokens, editions, reading, coming, trees, stacks, kept, shortest, alike, rooms, adding, blame, marks, leading, ways, exchange,
           workshop, scripts, papers, agreeing)
BY = (("by", "_"), 1, (1,))
PATTERNS = [form[0] for form in HERE.forms()]
KEYS = list(editions.numbers(HERE))
PLACES = [one[:many] for one, _, _ in HERE.forms() for many in range(1, len(one) + 1) if one[:many] != ("_",)]
FITTING = [("put", (("+",), 1, ())), ("level", ("tail", "+"), 1), ("hard", "a")]
FRAMES = [("bracket",)] + [("form", place) for place in PLACES if place[-1] == "_"]


def text():
    return ["(", "let", "a", "+", "'b", "in", "not", ")"]


def tree():
    return (PLUS[0], [("name", "a"), (NOT[0], [("number", "7")])])


def needy():
    return (TIMES[0], [(PLUS[0], [("name", "a"), ("name", "let")]), ("number", "7")])


def stack():
    return [("bracket",), ("form", ("let", "_")), ("form", PLUS[0])]


def shop():
    """A workshop with a text at the spot 1, and with commands taken back."""
    made = workshop.Workshop(HERE)
    made.enter(["a"])
    made.enter(["a", "+", "b"])
    made.close(0)
    made.change([("level", ("tail", "*"), 3)])
    made.edit(1, (0, 1, ["c", "*", "d"]))
    made.undo()
    return made


def log():
    return [("enter", ["a", "*", "b"]), ("edit", 1, (0, 1, ["b"])), ("change", [("level", ("tail", "+"), 2)]), ("lead", 1), ("close", 2)]


def script():
    return [("enter", ["a"]), ("try", [("close", 0), ("parted",)]), ("edit", 0, (0, 1, ["b", "+", "a"])), ("change", [("out", NOT[0])]),
            ("reading", 0), ("undo",)]


def is_like(value, others):
    """Whether an object is one of others, in which True is not 1."""
    return snapshot(value) in [snapshot(other) for other in others]


# For each kind of argument: a right one, the error, and what is right.
KINDS = {
    "edition": (lambda: HERE, errors.InvalidEdition, judges.edition),
    "newer": (lambda: LESS, errors.InvalidEdition, judges.edition),
    "editions": (lambda: [HERE, LESS], errors.InvalidEditions, judges.editions),
    "token": (lambda: "'a", errors.InvalidToken, judges.token),
    "line": (lambda: " a + 'b", errors.InvalidText, judges.line),
    "text": (text, errors.InvalidText, judges.text),
    "many": (lambda: 30, errors.InvalidCount, lambda value: judges.count(value) and value <= 1000),
    "forms": (lambda: [NOT, PLUS, LET], errors.InvalidForms, judges.forms),
    "hard": (lambda: ["not", "let"], errors.InvalidWords, judges.words),
    "change": (lambda: ("hard", "not"), errors.InvalidChange, lambda value: is_like(value, FITTING)),
    "changes": (lambda: [("out", NOT[0]), ("level", ("tail", "+"), 1)], errors.InvalidChanges, judges.changes),
    "place": (lambda: ("let", "_"), errors.UnknownPlace, lambda value: is_like(value, PLACES)),
    "at": (lambda: 4, errors.InvalidCount, lambda value: judges.count(value) and value <= len(text())),
    "tree": (tree, errors.InvalidTree, judges.tree),
    "path": (lambda: (1, 0), errors.InvalidPath, lambda value: is_like(value, [(), (0,), (1,), (1, 0)])),
    "frame": (lambda: ("form", PLUS[0]), errors.InvalidStack, lambda value: is_like(value, FRAMES + [("bottom",)])),
    "stack": (stack, errors.InvalidStack, lambda value: is_like(value, [[], [("bracket",)], stack()])),
    "line of editions": (lambda: [LESS, HERE], errors.InvalidEditions, lambda value: judges.editions(value) and value != []),
    "had": (lambda: PLUS[0], errors.UnknownForm, lambda value: is_like(value, [None] + PATTERNS)),
    "string": (lambda: "*", errors.InvalidToken, lambda value: isinstance(value, str)),
    "word or sign": (lambda: "not", errors.InvalidToken, lambda value: judges.matches(judges.FIXED, value)),
    "same": (lambda: SAME, errors.InvalidEdition, lambda value: is_like(value, [SAME, HERE])),
    "row": (lambda: ("left", PLUS[0], "+"), errors.InvalidRow, lambda value: is_like(value, rooms.used_rows(HERE))),
    "key": (lambda: ("tail", "+"), errors.InvalidKey, lambda value: is_like(value, KEYS)),
    "new form": (lambda: BY, errors.InvalidForm, lambda value: judges.form(value) and value[0] not in PATTERNS),
    "new forms": (lambda: [BY, (("_", "!"), 1, (1,))], errors.InvalidForms,
                  lambda value: judges.forms(value) and not [form for form in value if form[0] in PATTERNS]),
    "new words": (lambda: ["by"], errors.InvalidWords, lambda value: is_like(value, [[], ["by"]])),
    "reason": (lambda: ("hard", "by"), errors.InvalidReason, lambda value: is_like(value, [("hard", "by")])),
    "hard word": (lambda: "let", errors.InvalidToken, lambda value: is_like(value, ["let"])),
    "patterns": (lambda: [PLUS[0]], errors.InvalidPattern, lambda value: is_like(value, [[], [PLUS[0]]])),
    # Of a list the first thing is told that is no change; so no list is wrong itself.
    "any changes": (lambda: [("hard", "not"), ("level", ("tail", "+"), 9)], errors.InvalidChanges, lambda value: isinstance(value, list)),
    "lot": (lambda: [0, 1], errors.InvalidLot, lambda value: is_like(value, [[], [0], [1], [0, 1]])),
    "pattern": (lambda: PLUS[0], errors.UnknownForm, lambda value: is_like(value, PATTERNS)),
    "needy tree": (needy, errors.InvalidTree, judges.tree),
    "marks": (lambda: [(0,), (1,)], errors.InvalidMarks, lambda value: is_like(value, [[], [()], [(0,), (1,)]])),
    "way": (lambda: ((0,), (0,)), errors.InvalidWay, lambda value: is_like(value, [((0,), (0,)), ((0, 1), (0, 1))])),
    "newer here": (lambda: SAME, errors.InvalidEdition, judges.edition),
    "editions here": (lambda: [HERE, SAME], errors.InvalidEditions, lambda value: judges.editions(value) and value != []),
    # Texts that are not read raise another error.
    "read text": (text, errors.InvalidText, judges.text),
    "other read text": (lambda: ["a", "+", "not"], errors.InvalidText, judges.text),
    "any way": (lambda: ((0,), (0, 1)), errors.InvalidWay,
                lambda value: is_like(value, [(upper, lower) for lower in trees.paths(needy()) for upper in trees.paths(needy()) if lower[:len(upper)] == upper])),
    "surroundings": (lambda: (["(", "not"], ["+", "a", ")"]), errors.InvalidSurroundings,
                     lambda value: isinstance(value, tuple) and len(value) == 2 and judges.text(value[0]) and judges.text(value[1])),
    "look": (lambda: (PLUS[0], "*", True), errors.InvalidLook, lambda value: is_like(value, exchange.looks(HERE))),
    "edit": (lambda: (1, 3, ["x", "'b"]), errors.InvalidEdit, lambda value: is_like(value, [(0, 0, [])])),
    "workshop": (shop, errors.InvalidWorkshop, lambda value: isinstance(value, workshop.Workshop)),
    "log": (log, errors.InvalidLog, lambda value: is_like(value, [[]])),
    "script": (script, errors.InvalidScript, lambda value: is_like(value, [[]])),
    "script text": (lambda: scripts.script_text(script()), errors.InvalidText, lambda value: is_like(value, [""])),
    "edition text": (lambda: "4 _4 + _5\nhard", errors.InvalidText, lambda value: False),
    "tree text": (lambda: papers.tree_text(tree()), errors.InvalidText, lambda value: is_like(value, ["a", "+", "1", "'a", "a b"])),
    "any change": (lambda: ("put", PLUS), errors.InvalidChange, judges.change),
    "change text": (lambda: "hard not", errors.InvalidText, lambda value: False),
    "table": (lambda: [("wanted", ("bottom",)), ("had", None, ("form", PLUS[0]), "+")], errors.InvalidTable, lambda value: is_like(value, [[]])),
    "table text": (lambda: "had  _ + _  bracket  --", errors.InvalidText, lambda value: is_like(value, [""])),
    "editions of one stock": (lambda: [HERE, SAME], errors.InvalidEditions, lambda value: judges.editions(value) and len(value) == 1),
    "value": (lambda: None, None, None),
}
# Each function with the names of its parameters and the kinds of these.
FUNCTIONS = [
    (tokens.is_token, "value:value"), (tokens.kind, "token:token"), (tokens.cut, "line:line"), (tokens.line_of, "text:text"),
    (tokens.tight_line, "text:text"), (tokens.unmarked, "text:text"), (tokens.free_words, "editions:editions, many:many"),
    (editions.is_form, "value:value"), (editions.first_clash, "forms:forms, hard:hard"), (editions.Edition, "forms:forms, hard:hard"),
    (editions.numbers, "edition:edition"), (editions.changed, "edition:edition, change:change"),
    (editions.changed_by, "edition:edition, changes:changes"), (editions.told_changes, "elder:edition, newer:newer"),
    (editions.are_changes, "elder:edition, newer:newer, value:value"),
    (reading.places, "edition:edition"), (reading.goes_on, "edition:edition, place:place"), (reading.read, "edition:edition, text:text"),
    (reading.taken, "edition:edition, text:text"), (reading.standing, "edition:edition, text:text, at:at"),
    (coming.is_start, "edition:edition, tokens:text"), (coming.first_dead, "edition:edition, tokens:text"),
    (coming.may_come, "edition:edition, tokens:text"),
    (trees.is_tree, "edition:edition, value:value"), (trees.paths, "tree:tree"), (trees.part_at, "tree:tree, path:path"),
    (trees.put_at, "tree:tree, path:path, other:tree"), (trees.forms_in, "tree:tree"), (trees.words_in, "tree:tree"),
    (trees.bare_text, "tree:tree"), (trees.yield_parts, "tree:tree"), (trees.first_parted, "one:tree, other:tree"),
    (stacks.frames, "edition:edition"), (stacks.next_frames, "edition:edition, frame:frame"), (stacks.is_stack, "edition:edition, value:value"),
    (stacks.leading, "edition:edition, stack:stack"), (stacks.leading_size, "edition:edition, stack:stack"),
    (stacks.is_leading, "edition:edition, stack:stack, value:value"), (stacks.ending, "edition:edition, stack:stack"),
    (stacks.ending_size, "edition:edition, stack:stack"), (stacks.is_ending, "edition:edition, stack:stack, value:value"),
    (kept.is_kept_text, "elder:edition, newer:newer, text:text"), (kept.kept, "elder:edition, newer:newer"),
    (kept.shared_frames, "elder:edition, newer:newer"), (kept.deed, "edition:edition, value:had, frame:frame, token:string"),
    (kept.first_deed, "edition:edition, frame:frame, token:word or sign, after:string"), (kept.kept_table, "elder:edition, newer:newer"),
    (kept.is_kept_table, "elder:edition, newer:newer, value:value"), (kept.kept_along, "editions:line of editions"),
    (shortest.parting_text, "elder:edition, newer:newer"), (shortest.parting_size, "elder:edition, newer:newer"),
    (shortest.is_parting_text, "elder:edition, newer:newer, value:value"), (shortest.unlike_text, "one:edition, other:newer"),
    (shortest.is_unlike_text, "one:edition, other:newer, value:value"), (shortest.parting_names, "elder:edition, newer:newer"),
    (alike.reduced_table, "edition:edition"), (alike.are_alike, "one:edition, other:newer"), (alike.unlike_row, "one:edition, other:same"),
    (alike.two_form_text, "one:edition, other:same"), (alike.is_two_form_text, "one:edition, other:same, value:value"),
    (alike.normal, "edition:edition"), (alike.height, "edition:edition"), (alike.height_chain, "edition:edition"),
    (alike.is_height_chain, "edition:edition, value:value"),
    (rooms.used_rows, "edition:edition"), (rooms.used_text, "edition:edition, row:row"), (rooms.is_used_text, "edition:edition, row:row, value:value"),
    (rooms.room, "edition:edition, key:key"), (rooms.rooms, "edition:edition"), (rooms.room_ends, "edition:edition, key:key"),
    (rooms.are_room_ends, "edition:edition, key:key, value:value"), (rooms.is_looser, "elder:edition, newer:newer"),
    (rooms.loosest, "edition:edition"), (rooms.least_keeping, "edition:edition"), (rooms.greatest_keeping, "edition:edition"),
    (rooms.broken_rows, "elder:edition, newer:same"),
    (adding.added, "edition:edition, forms:new forms, hard:new words"), (adding.reasons, "edition:edition, form:new form, hard:new words"),
    (adding.shown, "edition:edition, form:new form, hard:new words, reason:reason"),
    (adding.is_shown, "edition:edition, form:new form, hard:new words, reason:reason, value:value"),
    (adding.stand_apart, "edition:edition, forms:new forms, hard:new words"), (adding.harmful, "edition:edition, forms:new forms, hard:new words"),
    (adding.softened, "edition:edition, word:hard word"), (adding.taken_out, "edition:edition, patterns:patterns"),
    (adding.lost_reasons, "edition:edition, patterns:patterns"),
    (blame.lot_edition, "elder:edition, changes:any changes, lot:lot"), (blame.breaking_lots, "elder:edition, changes:any changes"),
    (blame.kept_lots, "elder:edition, changes:any changes"), (blame.blame_texts, "elder:edition, changes:any changes"),
    (blame.are_blame_texts, "elder:edition, changes:any changes, value:value"), (blame.needed_forms, "elder:edition, newer:newer"),
    (blame.broken_without, "elder:edition, newer:newer, pattern:pattern"),
    (blame.is_broken_without, "elder:edition, newer:newer, pattern:pattern, value:value"),
    (marks.marked, "tree:tree, marks:marks"), (marks.reads_to, "edition:edition, tree:tree, marks:marks"), (marks.need_ways, "edition:edition, tree:needy tree"),
    (marks.unmet, "edition:edition, tree:tree, marks:marks"), (marks.fewest_marks, "edition:edition, tree:needy tree"),
    (marks.least_marks, "edition:edition, tree:needy tree"), (marks.are_least_marks, "edition:edition, tree:needy tree, value:value"),
    (marks.apart, "edition:edition, tree:needy tree"), (marks.are_apart, "edition:edition, tree:needy tree, value:value"),
    (marks.kinds, "edition:edition, tree:needy tree, way:way"),
    (leading.needed_for_all, "editions:editions here, tree:needy tree"), (leading.one_for_all, "editions:editions here, tree:needy tree"),
    (leading.are_for_all, "editions:editions here, tree:needy tree, value:value"), (leading.apart_for_all, "editions:editions here, tree:needy tree"),
    (leading.are_apart_for_all, "editions:editions here, tree:needy tree, value:value"), (leading.marks_in, "edition:edition, text:read text"),
    (leading.led_price, "elder:edition, newer:newer here, text:read text"), (leading.led_over, "elder:edition, newer:newer here, text:read text"),
    (leading.is_led_over, "elder:edition, newer:newer here, text:read text, value:value"), (leading.idle_number, "edition:edition, text:read text"),
    (leading.idle_pairs, "edition:edition, text:read text"), (leading.are_idle_pairs, "edition:edition, text:read text, value:value"),
    (ways.unheld, "elder:edition, newer:newer here, tree:needy tree"), (ways.are_held, "elder:edition, newer:newer here"),
    (ways.unheld_way, "elder:edition, newer:newer here"), (ways.is_unheld_way, "elder:edition, newer:newer here, value:value"),
    (ways.all_but, "elder:edition, tree:needy tree, way:any way"), (ways.is_bare, "elder:edition, newer:newer here, text:text"),
    (ways.bare_parting, "elder:edition, newer:newer here"), (ways.is_bare_parting, "elder:edition, newer:newer here, value:value"),
    (exchange.fits, "edition:edition, text:read text, surroundings:surroundings"), (exchange.looks, "edition:edition"),
    (exchange.surroundings_of, "edition:edition, look:look"), (exchange.are_surroundings_of, "edition:edition, look:look, value:value"),
    (exchange.passes, "edition:edition, text:read text, look:look"), (exchange.failed_looks, "edition:edition, text:read text"),
    (exchange.are_exchangeable, "edition:edition, one:read text, other:other read text"),
    (exchange.parting_surroundings, "edition:edition, one:read text, other:other read text"),
    (exchange.are_parting_surroundings, "edition:edition, one:read text, other:other read text, value:value"),
    (exchange.many_classes, "edition:edition"), (exchange.class_texts, "edition:edition"), (exchange.are_class_texts, "edition:edition, value:value"),
    (workshop.edited, "text:text, edit:edit"), (workshop.met, "edition:edition, text:text, edit:edit"), (workshop.Workshop, "edition:edition"),
    (workshop.replayed, "workshop:workshop, log:log"),
    (scripts.script_text, "script:script"), (scripts.read_script, "text:script text"), (scripts.end_of, "edition:edition, script:script"),
    (scripts.trimmed, "edition:edition, script:script"),
    (papers.edition_text, "edition:edition"), (papers.read_edition, "text:edition text"), (papers.tree_text, "tree:tree"),
    (papers.read_tree, "text:tree text"), (papers.change_text, "change:any change"), (papers.read_change, "text:change text"),
    (papers.table_text, "table:table"), (papers.read_table, "text:table text"),
    (agreeing.least_agreeing, "editions:editions of one stock"), (agreeing.greatest_agreeing, "editions:editions of one stock"),
    (agreeing.is_agreeing, "editions:editions of one stock, value:value"), (agreeing.quarrel, "editions:editions of one stock"),
    (agreeing.is_quarrel, "editions:editions of one stock, value:value"), (agreeing.quarrelling, "editions:editions of one stock"),
]
ROWS = [(function, [pair.split(":") for pair in told.split(", ")]) for function, told in FUNCTIONS]


def right_arguments(row):
    return [KINDS[kind][0]() for _, kind in row]


def anew(value):
    """A list with editions that are equal to its own, and are others."""
    if isinstance(value, Edition):
        return Edition(value.forms(), value.hard())
    return [anew(item) for item in value] if isinstance(value, list) else value


def as_told(value):
    """What a result is, an edition by its forms and words."""
    return snapshot(value)


class ArgumentsTest(unittest.TestCase):

    def test_names_and_files(self):
        for function, row in ROWS:
            self.assertEqual(list(inspect.signature(function).parameters), [name for name, _ in row])
        for module in MODULES:
            here = [function for function, _ in ROWS if function.__module__ == module.__name__]
            self.assertNotEqual(here, [])
            for function in here:
                self.assertIs(getattr(module, function.__name__), function)
        self.assertEqual(len(ROWS), len([function for function, _ in ROWS if function.__module__ in [module.__name__ for module in MODULES]]))
        for name in ("__init__", "__eq__", "forms", "hard"):
            self.assertIn(name, vars(Edition))

    def test_by_position_and_by_name(self):
        for function, row in ROWS:
            by_position = function(*right_arguments(row))
            names = [name for name, _ in row]
            by_name = function(**dict(reversed(list(zip(names, right_arguments(row))))))
            self.assertEqual(as_told(by_position), as_told(by_name), function.__name__)
            mixed = function(right_arguments(row)[0], **dict(zip(names[1:], right_arguments(row)[1:])))
            self.assertEqual(as_told(by_position), as_told(mixed), function.__name__)

    def raised(self, function, arguments, names, error, wrong):
        before = [snapshot(argument) for argument in arguments]
        for call in (lambda: function(*arguments), lambda: function(**dict(zip(names, arguments)))):
            with self.assertRaises(error) as caught:
                call()
            self.assertIs(caught.exception.__class__, error, (function.__name__, wrong))
            self.assertIs(caught.exception.value, wrong, function.__name__)
        self.assertEqual([snapshot(argument) for argument in arguments], before)

    def test_any_object_in_each_place(self):
        for function, row in ROWS:
            names = [name for name, _ in row]
            for at, (_, kind) in enumerate(row):
                _, error, is_right = KINDS[kind]
                if error is None:
                    continue
                for wrong in objects():
                    if not is_right(wrong):
                        arguments = right_arguments(row)
                        arguments[at] = wrong
                        self.raised(function, arguments, names, error, wrong)

    def test_two_wrong_arguments(self):
        for function, row in ROWS:
            names = [name for name, _ in row]
            for at, (_, kind) in enumerate(row[:-1]):
                _, error, is_right = KINDS[kind]
                for wrong in [thing for thing in objects() if not is_right(thing)][::4]:
                    for other in (None, True, 1, "$", ("x",), [None], {}, [("a", 1, ())], Edition([], [])):
                        arguments = right_arguments(row)[:at] + [wrong] + [other] * (len(row) - at - 1)
                        self.raised(function, arguments, names, error, wrong)

    def test_words_are_judged_ahead_of_the_clash(self):
        twice = ["a", "a"]
        for wrong in (twice, ["+"], None, ("a",), True):
            self.raised(Edition, [[PLUS, PLUS], wrong], ["forms", "hard"], errors.InvalidWords, wrong)

    def test_any_object_to_be_judged(self):
        for function, row in ROWS:
            if row[-1][1] != "value":
                continue
            for thing in objects():
                arguments = right_arguments(row)[:-1] + [thing]
                before = snapshot(arguments)
                self.assertIn(function(*arguments).__class__, (bool,), function.__name__)
                self.assertEqual(snapshot(arguments), before)

    def test_arguments_stay_and_results_are_new(self):
        for function, row in ROWS:
            arguments = right_arguments(row)
            before = snapshot(arguments)
            first = function(*arguments)
            told = as_told(first)
            self.assertEqual(snapshot(arguments), before, function.__name__)
            spoil(first)
            self.assertEqual(snapshot(arguments), before, function.__name__)
            self.assertEqual(as_told(function(*arguments)), told, function.__name__)
            # What was passed may be changed, too.
            again = function(*arguments)
            spoil(arguments)
            self.assertEqual(as_told(again), told, function.__name__)
            self.assertEqual(as_told(function(*right_arguments(row))), told, function.__name__)

    def test_equal_calls_in_another_order_and_between_others(self):
        pairs = random_pairs(110, 12, 4, 4)
        calls = []
        for elder, newer in pairs:
            for function, row in ROWS:
                taken = [kind for _, kind in row]
                if taken in (["edition", "newer"], ["edition"]):
                    calls.append((function, [elder, newer][:len(row)]))
                if taken == ["edition", "newer", "value"]:
                    calls.append((function, [elder, newer, ["a"]]))
                if taken == ["edition", "read text"]:
                    calls.append((function, [elder, ["q"]]))
                if taken == ["edition", "read text", "other read text"]:
                    calls.append((function, [newer, ["q"], ["(", "1", ")"]]))
                if taken[:2] == ["edition", "newer here"] and set(elder.grammar.patterns()) <= set(newer.grammar.patterns()):
                    rest = {"read text": ["q"], "text": ["q"], "needy tree": ("name", "q"), "value": ["a"]}
                    calls.append((function, [elder, newer] + [rest[kind] for kind in taken[2:]]))
                if taken[:1] == ["editions of one stock"]:
                    calls.append((function, [[elder, elder]] + [newer] * (len(row) - 1)))
        first = [as_told(function(*arguments)) for function, arguments in calls]
        again = [as_told(function(*anew(arguments))) for function, arguments in reversed(calls)]
        self.assertEqual(first, again[::-1])
        self.assertGreater(len(calls), 450)

    def test_lists_of_the_later_sections_are_read_as_they_are_then(self):
        row = ["x", "*", "y"]
        self.assertIs(kept.is_kept_text(HERE, SAME, row), True)
        row.extend(["+", "z"])
        self.assertIs(kept.is_kept_text(HERE, SAME, row), False)
        self.assertIs(shortest.is_parting_text(HERE, SAME, row), True)
        self.assertIs(alike.is_two_form_text(HERE, SAME, row), True)
        row.append("z")
        self.assertIs(shortest.is_unlike_text(HERE, SAME, row), False)
        table = kept.kept_table(LESS, LESS)
        self.assertIs(kept.is_kept_table(LESS, LESS, table), True)
        table.append(table[0])
        self.assertIs(kept.is_kept_table(LESS, LESS, table), False)
        along = [LESS, LESS]
        self.assertIs(kept.kept_along(along), True)
        along.append(Edition([], []))
        self.assertIs(kept.kept_along(along), False)
        chain = alike.height_chain(HERE)
        self.assertIs(alike.is_height_chain(HERE, chain), True)
        chain.clear()
        self.assertIs(alike.is_height_chain(HERE, chain), False)
        forms, hard = [BY], []
        self.assertEqual(adding.harmful(HERE, forms, hard), [])
        hard.append("by")
        self.assertEqual(adding.harmful(HERE, forms, hard), [0])
        newer = adding.added(HERE, forms, hard)
        forms.clear()
        hard.clear()
        self.assertEqual((newer.hard(), len(newer.forms())), (["by", "let"], 5))
        self.assertEqual(adding.added(HERE, forms, hard), HERE)
        changes, lot = [("hard", "not")], [0]
        self.assertEqual(blame.breaking_lots(HERE, changes), [[0]])
        changes.append(("soft", "not"))
        self.assertEqual(blame.kept_lots(HERE, changes), [[0, 1]])
        lot.append(1)
        self.assertEqual(blame.lot_edition(HERE, changes, lot), HERE)
        tree, quotes = needy(), [(0, 1)]
        self.assertEqual(marks.unmet(HERE, tree, quotes), ((0,), (0,)))
        quotes.insert(0, (0,))
        self.assertIsNone(marks.unmet(HERE, tree, quotes))
        tree[1][0] = ("name", "a")
        self.assertEqual(marks.need_ways(HERE, tree), [])
        with self.assertRaises(errors.InvalidMarks):
            marks.marked(tree, quotes)

    def test_lists_of_the_last_sections_are_read_as_they_are_then(self):
        row, part = [HERE], needy()
        self.assertEqual(leading.needed_for_all(row, part), 2)
        row.append(LESS)
        with self.assertRaises(errors.UnknownForm):
            leading.needed_for_all(row, part)
        row[1] = Edition([PLUS, TIMES], [])
        self.assertEqual(leading.one_for_all(row, part), [(0,), (0, 1)])
        part[1][0] = ("name", "let")
        self.assertEqual(leading.apart_for_all(row, part), [((0,), (0,))])
        self.assertEqual(ways.unheld(Edition([PLUS, TIMES], []), HERE, part), [((0,), (0,))])
        words = ["a", "+", "b"]
        self.assertEqual(leading.marks_in(HERE, words)[1:], ({}, []))
        words.insert(0, "(")
        words.append(")")
        self.assertEqual(leading.marks_in(HERE, words)[1:], ({(): 1}, []))
        self.assertEqual(leading.idle_pairs(HERE, words), [0])
        words += ["*", "c"]
        self.assertEqual(leading.idle_pairs(HERE, words), [])
        around = ([], ["*", "7"])
        self.assertIs(exchange.fits(HERE, ["a", "+", "b"], around), False)
        around[1][0] = "+"
        self.assertIs(exchange.fits(HERE, ["a", "+", "b"], around), True)
        rows = exchange.class_texts(HERE)
        self.assertIs(exchange.are_class_texts(HERE, rows), True)
        rows[0].append("$")
        self.assertIs(exchange.are_class_texts(HERE, rows), False)
        edit = (0, 1, ["x"])
        self.assertEqual(workshop.edited(["a"], edit), ["x"])
        edit[2].clear()
        self.assertEqual(workshop.edited(["a"], edit), [])
        orders = script()
        self.assertEqual(len(scripts.script_text(orders).split("\n")), 11)
        orders[1][1].clear()
        self.assertEqual(len(scripts.script_text(orders).split("\n")), 9)
        orders.append(("undo", 1))
        with self.assertRaises(errors.InvalidScript):
            scripts.script_text(orders)
        table = [("wanted", ("bottom",))]
        self.assertEqual(papers.table_text(table), "wanted  bottom")
        table.append(("wanted", ("bracket",)))
        self.assertEqual(papers.table_text(table), "wanted  bottom\nwanted  bracket")
        stock = [HERE]
        self.assertIs(agreeing.is_agreeing(stock, HERE), True)
        stock.append(SAME)
        self.assertIs(agreeing.is_agreeing(stock, HERE), False)
        stock.append(LESS)
        with self.assertRaises(errors.InvalidEditions):
            agreeing.quarrel(stock)

    def test_a_list_is_read_as_it_is_then(self):
        row = ["a"]
        self.assertEqual(reading.read(HERE, row), ("read", ("name", "a")))
        row.append("+")
        self.assertEqual(reading.read(HERE, row), ("fault", 2))
        self.assertEqual(coming.may_come(HERE, row), (["not"], True, False, False))
        row.append("let")
        self.assertEqual(coming.first_dead(HERE, row), 2)
        row[2:] = ["1"]
        self.assertIs(coming.is_start(HERE, row), True)
        self.assertEqual(tokens.line_of(row), "a + 1")
        row.append(None)
        with self.assertRaises(errors.InvalidText):
            reading.taken(HERE, row)
        part = (PLUS[0], [("name", "a"), ("name", "b")])
        self.assertEqual(trees.words_in(part), ["a", "b"])
        part[1][0] = (NOT[0], [("number", "1")])
        self.assertEqual(trees.words_in(part), ["b"])
        del part[1][0]
        with self.assertRaises(errors.InvalidTree):
            trees.words_in(part)
        open_ones = [("bracket",)]
        self.assertEqual(stacks.ending_size(HERE, open_ones), 2)
        open_ones.append(("form", ("let", "_")))
        self.assertEqual(stacks.ending_size(HERE, open_ones), 4)
        forms = [PLUS]
        one = Edition(forms, [])
        forms.append(NOT)
        self.assertEqual(one, Edition([PLUS], []))
        self.assertEqual(Edition(forms, []), LESS)

    def test_rows_of_other_kinds(self):
        calls = [
            (reading.read, (HERE, tuple(text())), errors.InvalidText), (tokens.line_of, (("a",),), errors.InvalidText),
            (tokens.free_words, ((HERE,), 1), errors.InvalidEditions), (tokens.free_words, ([], True), errors.InvalidCount),
            (reading.goes_on, (HERE, ["let"]), errors.UnknownPlace), (trees.part_at, (tree(), [1, 0]), errors.InvalidPath),
            (trees.part_at, (tree(), (True,)), errors.InvalidPath), (trees.paths, ((PLUS[0], tuple(tree()[1])),), errors.InvalidTree),
            (trees.paths, (list(tree()),), errors.InvalidTree), (stacks.leading, (HERE, tuple(stack())), errors.InvalidStack),
            (stacks.leading, (HERE, [["bracket"]]), errors.InvalidStack), (editions.changed, (HERE, ["hard", "not"]), errors.InvalidChange),
            (editions.changed, (HERE, ("level", ("tail", "+"), True)), errors.InvalidChange),
            (editions.changed_by, (HERE, (("hard", "not"),)), errors.InvalidChanges),
            (editions.first_clash, ([[PLUS[0], 4, (4, 5)]], []), errors.InvalidForms),
            (editions.first_clash, ([(PLUS[0], True, (4, 5))], []), errors.InvalidForms),
            (editions.first_clash, ([(PLUS[0], 4, (4, False))], []), errors.InvalidForms),
            (reading.standing, (HERE, ["a"], True), errors.InvalidCount), (reading.standing, (HERE, ["a"], False), errors.InvalidCount),
        ]
        for function, arguments, error in calls:
            with self.assertRaises(error):
                function(*arguments)
