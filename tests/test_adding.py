"""Points 65 to 69: forms that are added and taken out, and the reasons for which texts break."""

import random
import unittest

from keptreadings.adding import added, harmful, is_shown, lost_reasons, reasons, shown, softened, stand_apart, taken_out
from keptreadings.editions import Edition, changed
from keptreadings.errors import InvalidEdition, InvalidForm, InvalidForms, InvalidPattern, InvalidReason, InvalidToken, InvalidWords, Unsound
from keptreadings.kept import is_kept_text, kept
from keptreadings.reading import read, taken
from keptreadings.tokens import cut
from tests import naive, naive_pairs
from tests.pairs import told
from tests.samples import LET, NOT, PLUS, TIMES, objects, random_editions, random_form

MINUS, NEG, NAY = (("_", "-", "_"), 5, (5, 6)), (("-", "_"), 6, (6,)), (("not", "_"), 4, (4,))
HERE = Edition([PLUS, LET, NAY], ["let"])
TAIL, BOTH, HEADS, AHEAD = Edition([MINUS], []), Edition([MINUS, NEG], []), Edition([MINUS, NAY], []), Edition([NAY], [])


def additions(seed, count, many, tries):
    """Editions with a form that may be added alone, and its hard words."""
    source = random.Random(seed)
    found = []
    for edition in random_editions(seed, count, many, 3):
        for _ in range(tries):
            tokens = source.sample(["a", "b", "c", "d", "e", "+", "-"], 4)
            form = random_form(source, tokens, 3)
            if edition.forms() and source.random() < 0.3:
                # One that goes on where a form of the edition ends.
                pattern, level, levels = source.choice(edition.forms())
                middles = [item for other, _, _ in edition.forms() for item in other[2:] if item != "_"]
                form = (pattern + (source.choice(middles + tokens),), level, levels)
            first = form[0][0]
            may_be_hard = first.isalpha() and first not in [other[0][0] for other in edition.forms()]
            hard = [first] if may_be_hard and (len(form[0]) == 1 or source.random() < 0.2) else []
            try:
                added(edition, [form], hard)
                found.append((edition, form, hard))
            except (InvalidForms, Unsound):
                pass
    return found


class AddedTest(unittest.TestCase):

    def test_added(self):
        self.assertEqual(added(HERE, [], []), HERE)
        self.assertEqual(added(HERE, [TIMES, NEG], []), Edition([NAY, TIMES, PLUS, NEG, LET], ["let"]))
        by, nil = (("by", "_"), 1, (1,)), (("nil",), 1, ())
        self.assertEqual(added(HERE, [by, nil], ["nil"]), Edition(HERE.forms() + [by, nil], ["let", "nil"]))
        self.assertEqual(added(HERE, [by, nil], ["nil", "by"]), Edition(HERE.forms() + [by, nil], ["by", "let", "nil"]))
        more = (("not", "_", "or", "_"), 4, (4, 0))
        self.assertEqual(added(HERE, [more], []), Edition(HERE.forms() + [more], ["let"]))

    def test_forms_that_may_not_be_added(self):
        wrong = [[PLUS], [TIMES, PLUS], [(PLUS[0], 9, (9, 9))], (TIMES,), TIMES, [TIMES[0]], [list(TIMES)], None, {}, [None], [(TIMES[0], 6, (6,))],
                 [(TIMES[0], True, (6, 7))], [TIMES, []]]
        for forms in wrong + [thing for thing in objects() if not isinstance(thing, list) or thing]:
            for hard in ([], None, ["x"]):
                for ask in (added, stand_apart, harmful):
                    with self.assertRaises(InvalidForms) as caught:
                        ask(HERE, forms, hard)
                    self.assertIs(caught.exception.value, forms)
                    with self.assertRaises(InvalidEdition):
                        ask(None, forms, hard)

    def test_a_form_that_may_not_be_added_alone(self):
        calls = (reasons, lambda *rest: shown(*rest, None), lambda *rest: is_shown(*rest, None, None))
        for form in [PLUS, (PLUS[0], 1, (1, 1)), [TIMES], list(TIMES), TIMES[0], None, (TIMES[0], 6, (6, 10))] + objects():
            for ask in calls:
                for hard in ([], None):
                    with self.assertRaises(InvalidForm) as caught:
                        ask(HERE, form, hard)
                    self.assertIs(caught.exception.value, form)
                with self.assertRaises(InvalidEdition):
                    ask([form], form, form)

    def test_words_that_may_not_be_hard(self):
        by = (("by", "_"), 1, (1,))
        more = (("not", "_", "or", "_"), 4, (4, 0))
        # No word begins an added tail, or a sign; one that begins a head of the edition may not be made hard so.
        for forms, hard in (([TIMES], ["x"]), ([NEG], ["-"]), ([by], ["by", "by"]), ([by], ["by", "let"]), ([more], ["not"]), ([by], ["_"]), ([by], [None]),
                            ([by], ("by",)), ([by], "by"), ([by], None), ([by], {}), ([by], [["by"]]), ([], ["let"]), ([], ["x"]), ([by], ["by", True])):
            for ask in (added, stand_apart, harmful):
                with self.assertRaises(InvalidWords) as caught:
                    ask(HERE, forms, hard)
                self.assertIs(caught.exception.value, hard)
        calls = (reasons, lambda *rest: shown(*rest, None), lambda *rest: is_shown(*rest, None, None))
        for form, hard in ((TIMES, ["x"]), (more, ["not"]), (by, ["by", "by"]), (by, None), (by, ["let"])):
            for ask in calls:
                with self.assertRaises(InvalidWords) as caught:
                    ask(HERE, form, hard)
                self.assertIs(caught.exception.value, hard)

    def test_what_comes_out_is_not_sound(self):
        rows = [
            ([TIMES, TIMES], [], ("twice", TIMES[0])), ([TIMES, (TIMES[0], 1, (1, 1))], [], ("twice", TIMES[0])),
            ([(("_", "+"), 4, (3,))], [], ("level", ("left", "+"))), ([(("not", "_", "or"), 4, (5,))], [], ("level", ("hole", NAY[0]))),
            ([(("not", "or"), 4, ())], [], ("branch", ("not",))), ([(("[", "+"), 4, ())], [], ("both", "+")), ([(("_", "in"), 4, (3,))], [], ("both", "in")),
            ([(("nil",), 1, ())], [], ("soft", "nil")), ([(("not", "_", "or"), 3, (5,)), (("[", "+"), 4, ())], [], ("level", ("head", "not"))),
        ]
        for forms, hard, clash in rows:
            for ask in (added, stand_apart, harmful):
                with self.assertRaises(Unsound) as caught:
                    ask(HERE, forms, hard)
                self.assertEqual(caught.exception.value, clash)
            if len(forms) == 1:
                for ask in (reasons, lambda *rest: shown(*rest, None), lambda *rest: is_shown(*rest, ("hard", "x"), None)):
                    with self.assertRaises(Unsound) as caught:
                        ask(HERE, forms[0], hard)
                    self.assertEqual(caught.exception.value, clash)
        self.assertEqual(added(HERE, [(("nil",), 1, ())], ["nil"]).hard(), ["let", "nil"])


def heads_of(edition):
    return [form[0][0] for form in edition.forms() if form[0][0] != "_"]


def naive_reasons(edition, form, hard, most, cap):
    """[66], what is told of texts by a search among those of up to so many tokens."""
    newer = Edition(edition.forms() + [form], edition.hard() + hard)
    pattern, word = form[0], form[0][0]
    patterns = [other[0] for other in edition.forms()]
    fixed = {item for other in patterns for item in other}
    behind_holes = {other[at] for other in patterns for at in range(1, len(other)) if other[at - 1] == "_"}
    soft_ones = [other[0] for other in patterns if other[0].isalpha() and other[0] not in edition.hard() and other[1:2] == ("_",)]
    found = {("hard", one) for one in hard}
    texts = naive_pairs.texts_read(edition, sorted(set(naive.tokens_of(edition)) | {word} - {"_"}), most, cap)
    if word.isalpha() and word not in newer.hard():
        for text in texts:
            hows = naive_pairs.reading(edition, text).hows
            for at in [at for at in range(len(text) - 1) if text[at] == word and hows[at] == ("name",)]:
                after = text[at + 1]
                by_hole = naive_pairs.begins_value(newer, after) and word not in heads_of(edition) and pattern[1:2] == ("_",)
                if by_hole or (pattern[1] == after and (word, after) not in [other[:2] for other in patterns]):
                    found.add(("meant", word, after))
    if word != "_" and word in behind_holes and word not in heads_of(edition):
        found.update(("begins", other, word) for other in soft_ones)
    for other in pattern[1:]:
        if other.isalpha() and other not in fixed and other != word:
            found.update(("names", soft, other) for soft in soft_ones)
    for at in range(1, len(pattern)):
        beginning, after = pattern[:at], pattern[at]
        if after != "_" and beginning in patterns and beginning + (after,) not in [other[:at + 1] for other in patterns]:
            if any(stands_behind(read(edition, text)[1], beginning, after, text) for text in texts if not set(text) & {"(", ")"}):
                found.add(("behind", beginning, after))
    return sorted(found)


def stands_behind(tree, pattern, token, text):
    """Whether in a text without brackets a token stands right behind a part of a pattern."""
    ends = []

    def go(part, at):
        if part[0] in ("name", "number"):
            return at + 1
        trees = list(part[1])
        for item in part[0]:
            at = go(trees.pop(0), at) if item == "_" else at + 1
        ends.append((part[0], at))
        return at
    go(tree, 0)
    return any(one == pattern and text[end:end + 1] == [token] for one, end in ends)


class ReasonsTest(unittest.TestCase):

    def told(self, edition, form, hard, wanted):
        self.assertEqual(reasons(edition, form, hard), wanted, (edition.forms(), edition.hard(), form))
        self.assertIs(kept(edition, added(edition, [form], hard)), wanted == [])
        for reason in wanted:
            text = shown(edition, form, hard, reason)
            self.assertIs(is_shown(edition, form, hard, reason, text), True, (reason, text))

    def test_hard(self):
        self.told(TAIL, NAY, ["not"], [("hard", "not")])
        self.told(TAIL, NAY, [], [])
        self.told(Edition([], []), (("nil",), 1, ()), ["nil"], [("hard", "nil")])

    def test_meant_by_a_value_that_begins(self):
        self.told(BOTH, NAY, [], [("meant", "not", "-")])
        # "-" begins no value; the form has no hole behind the word; the word begins a head already; it never is a name ahead of it.
        self.told(TAIL, NAY, [], [])
        self.told(BOTH, (("not", "by", "_"), 4, (4,)), [], [])
        self.told(Edition([MINUS, NEG, NAY], []), (("not", "_", "!"), 4, (4,)), [], [])
        self.told(Edition([NEG], []), NAY, [], [])
        self.told(Edition([NEG, (("f", "_", "-"), 4, (4,))], []), NAY, [], [("meant", "not", "-")])
        # The word itself, where it stands behind a value.
        self.told(Edition([(("_", "not", "_"), 5, (5, 6))], []), NAY, [], [("meant", "not", "not")])

    def test_meant_by_a_token_that_follows(self):
        to = (("[", "_", "to"), 4, (4,))
        form = (("not", "to", "_"), 4, (4,))
        self.told(Edition([to], []), form, [], [("meant", "not", "to")])
        self.told(Edition([to, (("not", "!"), 4, ())], []), form, [], [("meant", "not", "to")])
        # Another token follows in the form; it follows in a head of the edition already.
        self.told(Edition([to], []), (("not", "by", "to"), 4, ()), [], [])
        self.told(Edition([to, (("not", "to", "!"), 4, ())], []), (("not", "to", "?"), 4, ()), [], [])
        # In no text it stands right behind the word as a name.
        self.told(Edition([(("[", "not", "to"), 4, ())], []), (("not", "to"), 4, ()), [], [])
        self.told(Edition([(("[", "_", "to"), 4, (4,))], []), (("not", "to"), 4, ()), [], [("meant", "not", "to")])
        self.told(Edition([(("[", "to", "_"), 4, (4,))], []), (("not", "to"), 4, ()), [], [])

    def test_begins(self):
        self.told(HEADS, NEG, [], [("begins", "not", "-")])
        # It does not go on behind a hole; it is a head's first token already; the word is hard, or has no hole behind it.
        self.told(Edition([NAY, (("[", "-", "]"), 1, ())], []), NEG, [], [])
        self.told(Edition([MINUS, NAY, (("-", "_", "!"), 6, (6,))], []), NEG, [], [])
        self.told(Edition([MINUS, NAY], ["not"]), NEG, [], [])
        self.told(Edition([MINUS, (("not", "by", "_"), 4, (4,))], []), NEG, [], [])
        self.told(Edition([NAY, (("[", "_", "-"), 4, (4,))], []), NEG, [], [("begins", "not", "-")])
        self.told(Edition([NAY, (("w", "_"), 4, (4,)), (("_", "to"), 4, (4,))], []), (("to", "_"), 1, (1,)), [],
                  [("begins", "not", "to"), ("begins", "w", "to"), ("meant", "to", "to")])

    def test_names(self):
        cast = (("_", "as", "_"), 3, (3, 4))
        self.told(AHEAD, cast, [], [("names", "not", "as")])
        # A sign; a fixed token of the edition; the first one of the form; a hard word, or one without a hole.
        self.told(AHEAD, PLUS, [], [])
        self.told(Edition([NAY, (("as", "_"), 4, (4,))], []), cast, [], [])
        self.told(AHEAD, (("as", "_", "as", "_"), 3, (3, 4)), [], [])
        self.told(Edition([NAY], ["not"]), cast, [], [])
        self.told(Edition([(("not", "by", "_"), 4, (4,))], []), cast, [], [])
        self.told(AHEAD, (("if", "_", "so", "_", "to", "_"), 3, (3, 4, 5)), [], [("names", "not", "so"), ("names", "not", "to")])
        self.told(AHEAD, (("[", "so", "_", "so"), 3, (3,)), [], [("names", "not", "so")])
        self.told(Edition([(("w", "_"), 4, (4,))], []), (("by", "_", "on"), 3, (3,)), [], [("names", "w", "on")])

    def test_behind(self):
        stray = [(("a", "_"), 5, (0,)), (("f", "_", "b", "_"), 5, (0, 0))]
        form = (("a", "_", "b"), 5, (0,))
        self.told(Edition(stray, ["a"]), form, [], [("behind", ("a", "_"), "b")])
        # The beginning is no pattern, one goes on by the token already, or it never stands there.
        self.told(Edition([(("a", "_", "c"), 5, (0,)), stray[1]], ["a"]), form, [], [])
        self.told(Edition(stray + [(("a", "_", "b", "c"), 5, (0,))], ["a"]), form, [], [])
        self.told(Edition([stray[0], (("f", "b", "_"), 5, (0,))], ["a"]), form, [], [])
        self.told(Edition([stray[0], (("f", "_", "b", "_"), 5, (6, 0))], ["a"]), form, [], [])
        # A pattern that ends with a fixed token.
        closed = [(("[", "]"), 5, ()), (("f", "_", "b"), 5, (0,))]
        self.told(Edition(closed, []), (("[", "]", "b"), 5, ()), [], [("behind", ("[", "]"), "b")])
        self.told(Edition([closed[0], (("f", "_", "b"), 5, (6,))], []), (("[", "]", "b"), 5, ()), [], [])
        # A tail that goes on.
        tails = [(("_", "?", "_"), 5, (5, 6)), (("f", "_", ":", "_"), 5, (0, 0))]
        self.told(Edition(tails, []), (("_", "?", "_", ":", "_"), 5, (5, 6, 5)), [], [("behind", ("_", "?", "_"), ":")])

    def test_several_kinds(self):
        edition = Edition([NAY, (("_", "to"), 4, (4,)), (("[", "_", "b"), 5, (0,))], [])
        form = (("to", "_", "so", "_"), 1, (1, 1))
        self.told(edition, form, ["to"], [("begins", "not", "to"), ("hard", "to"), ("names", "not", "so")])
        self.told(edition, form, [], [("begins", "not", "to"), ("meant", "to", "to"), ("names", "not", "so")])

    def test_no_reason_just_if_all_texts_are_kept(self):
        seen = set()
        for edition, form, hard in additions(80, 130, 4, 8):
            found = reasons(edition, form, hard)
            newer = added(edition, [form], hard)
            self.assertIs(found == [], kept(edition, newer), (edition.forms(), edition.hard(), form, hard))
            for reason in found:
                text = shown(edition, form, hard, reason)
                self.assertIs(naive_pairs.broken(edition, newer, text), True)
                self.assertIs(is_shown(edition, form, hard, reason, text), True, (edition.forms(), form, reason, text))
                seen.add(reason[0])
        self.assertEqual(seen, {"hard", "meant", "begins", "names", "behind"})

    def test_held_against_all_texts(self):
        seen = set()
        for edition, form, hard in additions(81, 60, 3, 5):
            found = reasons(edition, form, hard)
            searched = naive_reasons(edition, form, hard, 5, 900)
            self.assertEqual([reason for reason in searched if reason not in found], [], (edition.forms(), edition.hard(), form))
            for reason in found:
                if reason not in searched:
                    # Such a text is longer than those that were looked at.
                    self.assertIn(reason[0], ("meant", "behind"))
                    self.assertGreater(len(shown(edition, form, hard, reason)), 3)
                seen.add(reason[0])
        self.assertLessEqual({"hard", "meant", "names"}, seen)


class ShownTest(unittest.TestCase):

    def test_other_texts(self):
        rows = [
            (TAIL, NAY, ["not"], ("hard", "not"), ["not", "x - not", "( not )", "not - x"], ["x", "- not", "", "'not", "x - y"]),
            (BOTH, NAY, [], ("meant", "not", "-"), ["not - x", "x - not - y", "( not - 1 )"], ["not", "x - not", "not not - x", "not -", "not x"]),
            (HEADS, NEG, [], ("begins", "not", "-"), ["not - x", "x - not - y", "not not - x"], ["not x - y", "not", "- x", "'not - x"]),
            (AHEAD, (("_", "as", "_"), 3, (3, 4)), [], ("names", "not", "as"), ["not as", "not not as", "( not as )"], ["as", "not x", "not ( as )", "not 'as"]),
        ]
        for edition, form, hard, reason, right, wrong in rows:
            for line in right:
                self.assertIs(is_shown(edition, form, hard, reason, cut(line)), True, line)
            for line in wrong:
                self.assertIs(is_shown(edition, form, hard, reason, cut(line)), False, line)
            for thing in objects() + [tuple(cut(right[0]))]:
                wanted = isinstance(thing, list) and thing in [cut(line) for line in right]
                self.assertIs(is_shown(edition, form, hard, reason, thing), wanted)

    def test_the_first_token_that_is_taken_unlike(self):
        edition = Edition([NAY, (("w", "_"), 4, (4,))], [])
        cast = (("_", "as", "_", "to", "_"), 3, (3, 4, 4))
        self.assertEqual(len(reasons(edition, cast, [])), 4)
        text = cut("not w as")
        for reason in reasons(edition, cast, []):
            self.assertIs(is_shown(edition, cast, [], reason, text), reason == ("names", "w", "as"))
            self.assertIs(is_shown(edition, cast, [], reason, cut("not to")), reason == ("names", "not", "to"))
        self.assertIs(is_shown(edition, cast, [], ("names", "not", "as"), cut("not as")), True)

    def test_behind_a_beginning(self):
        stray = Edition([(("a", "_"), 5, (0,)), (("a", "_", "c"), 5, (0,)), (("f", "_", "b", "_"), 5, (0, 0))], ["a"])
        forms = [(("a", "_", "b"), 5, (0,)), (("a", "_", "c", "b"), 5, (0,))]
        first, second = ("behind", ("a", "_"), "b"), ("behind", ("a", "_", "c"), "b")
        self.assertEqual([reasons(stray, form, []) for form in forms], [[first], [second]])
        self.assertIs(is_shown(stray, forms[0], [], first, cut("f a x b y")), True)
        self.assertIs(is_shown(stray, forms[0], [], first, cut("f a x c b y")), False)
        self.assertIs(is_shown(stray, forms[1], [], second, cut("f a x c b y")), True)
        self.assertIs(is_shown(stray, forms[0], [], first, cut("f a a x c b y")), True)
        self.assertIs(is_shown(stray, forms[0], [], first, cut("f (a x) b y")), False)

    def test_both_reasons_of_one_token(self):
        # The text is broken, but by the other one of two beginnings.
        stray = Edition([(("a", "_"), 5, (0,)), (("a", "_", "b", "d"), 5, (0,)), (("f", "_", "c", "_"), 5, (0, 0))], ["a"])
        form = (("a", "_", "b", "d", "c"), 5, (0,))
        self.assertEqual(reasons(stray, form, []), [("behind", ("a", "_", "b", "d"), "c")])
        self.assertIs(is_shown(stray, form, [], ("behind", ("a", "_", "b", "d"), "c"), cut("f a x b d c y")), True)
        self.assertIs(is_kept_text(stray, added(stray, [form], []), cut("f a x c y")), True)

    def test_what_is_no_reason(self):
        for reason in [("hard", "not"), ("meant", "not", "x"), ["meant", "not", "-"], ("meant", "not"), ("meant", "not", "-", "x"), None, (), ("begins", "not", "-"),
                       ("behind", ("not",), "-")] + objects():
            for ask in (shown, lambda *rest: is_shown(*rest, cut("not - x"))):
                with self.assertRaises(InvalidReason) as caught:
                    ask(BOTH, NAY, [], reason)
                self.assertIs(caught.exception.value, reason)
        with self.assertRaises(InvalidReason):
            shown(TAIL, NAY, [], ("hard", "not"))
        self.assertEqual(shown(TAIL, NAY, ["not"], ("hard", "not")), ["not"])

    def test_all_texts(self):
        for edition, form, hard in additions(82, 40, 3, 3):
            newer = added(edition, [form], hard)
            found = reasons(edition, form, hard)
            tokens = sorted(set(naive_pairs.tokens_of(edition, newer)) | {"'a"})
            for text in naive_pairs.texts_read(edition, tokens, 4, 500) if found else []:
                one, other = taken(edition, text), taken(newer, text)
                at = min([at for at in range(len(text)) if one[at:at + 1] != other[at:at + 1]], default=None)
                for reason in found:
                    wanted = naive_pairs.broken(edition, newer, text) and at is not None
                    if reason[0] == "behind":
                        wanted = wanted and text[at] == reason[2] and other[at:at + 1] == [("form", reason[1] + (reason[2],))]
                    elif wanted:
                        wanted = tuple(text[at:at + len(reason) - 1]) == reason[1:]
                    self.assertIs(is_shown(edition, form, hard, reason, text), wanted, (edition.forms(), form, reason, text))


class ApartTest(unittest.TestCase):

    def test_stand_apart(self):
        edition = Edition([MINUS, (("if", "_", "then", "_"), 2, (0, 2))], [])
        other = (("if", "_", "then", "_", "else", "_"), 2, (0, 2, 2))
        rows = [
            ([], True), ([NEG], False), ([NAY], True), ([PLUS, TIMES], True), ([other], True), ([(("then", "_"), 1, (1,))], False),
            # A token of two added forms; twice in one of them; a shared beginning alone.
            ([(("x", "_", "y"), 1, (1,)), (("z", "_", "y"), 1, (1,))], False), ([(("x", "y", "x"), 1, ())], True),
            ([other, (("if", "_", "then", "_", "or", "_"), 2, (0, 2, 2))], True), ([other, (("or", "else"), 1, ())], False),
            ([(("if", "_"), 2, (0,))], True), ([(("if", "_", "else"), 2, (0,))], True), ([(("if", "_", "else"), 2, (0,)), other], False),
            ([(("_", "-", "_", "or", "_"), 5, (5, 6, 1))], True), ([(("_", "+", "_", "then"), 5, (5, 6))], False), ([(("if", "_", "if"), 2, (0,))], False),
            # The token stands in the beginning that the other one shares, but with an added form alone.
            ([(("x", "_"), 1, (1,)), (("x", "_", "y"), 1, (1,))], False),
        ]
        short = Edition([(("go", "to"), 1, ()), (("do", "by", "on"), 1, ())], [])
        for form in (("go", "up"), ("go", "to", "up"), ("do", "by"), ("do", "by", "up")):
            self.assertIs(stand_apart(short, [(form, 1, ())], []), True, form)
        self.assertIs(stand_apart(short, [(("go", "by"), 1, ())], []), False)
        for forms, wanted in rows:
            self.assertIs(stand_apart(edition, forms, []), wanted, forms)
            self.assertIs(stand_apart(edition, forms[::-1], []), wanted, forms)

    def test_harmful(self):
        self.assertEqual(harmful(TAIL, [NEG, NAY], []), [])
        self.assertIs(stand_apart(TAIL, [NEG, NAY], []), False)
        self.assertIs(kept(TAIL, added(TAIL, [NEG, NAY], [])), False)
        self.assertEqual(harmful(TAIL, [NEG, NAY], ["not"]), [1])
        self.assertEqual(harmful(HEADS, [NEG, PLUS], []), [0])
        self.assertEqual(harmful(HEADS, [PLUS, NEG], []), [1])
        self.assertEqual(harmful(AHEAD, [(("_", "as", "_"), 3, (3, 4)), PLUS, (("_", "by"), 1, (1,))], []), [0, 2])
        self.assertEqual(harmful(TAIL, [], []), [])
        # Of the hard words just those that begin the form.
        by, to = (("by", "_"), 1, (1,)), (("to", "_"), 1, (1,))
        self.assertEqual([harmful(TAIL, [by, to], hard) for hard in ([], ["by"], ["to"], ["to", "by"])], [[], [0], [1], [0, 1]])
        self.assertEqual(harmful(TAIL, [(("by", "to"), 1, ()), (("by", "on"), 1, ())], ["by"]), [0, 1])

    def test_one_that_harms_and_another_one_that_mends_it(self):
        # "not +" is a form with the one, and "+" begins no value again with nothing else: neither follows from the other.
        seen = set()
        source = random.Random(83)
        for edition, form, hard in additions(83, 100, 3, 6):
            forms = [form]
            for _ in range(6):
                other = random_form(source, ["a", "b", "e", "f", "+", "/"], 3)
                try:
                    added(edition, forms + [other], hard)
                    forms.append(other)
                except (InvalidForms, Unsound):
                    pass
            newer = added(edition, forms, hard)
            apart, harms = stand_apart(edition, forms, hard), harmful(edition, forms, hard)
            for at, one in enumerate(forms):
                alone = added(edition, [one], [word for word in hard if word == one[0][0]])
                self.assertIs(at in harms, not kept(edition, alone))
            if apart:
                self.assertIs(kept(edition, newer), harms == [], (told(edition, newer), forms))
            seen.add((apart, harms == [], kept(edition, newer)))
        self.assertLessEqual({(True, True, True), (True, False, False), (False, True, True), (False, False, False), (False, True, False)}, seen)


class SoftenedTest(unittest.TestCase):

    def test_words(self):
        stray = Edition([(("a", "_"), 5, (0,)), (("f", "_", "b", "_"), 5, (0, 0))], ["a", "f"])
        self.assertEqual(softened(stray, "a"), ["a", "b"])
        self.assertIn(softened(stray, "f"), (["f", "b", "b", "0"], ["f", "b", "b", "b"]))
        # Behind the hard word "in" can be a name.
        self.assertEqual(softened(HERE, "let"), ["let", "in", "in", "0"])
        self.assertIsNone(softened(Edition([PLUS, NOT], ["not"]), "not"))
        fixed = Edition([(("a", "by"), 5, ())], ["a"])
        self.assertIsNone(softened(fixed, "a"))

    def test_a_word_alone_is_a_pattern(self):
        edition = Edition([(("nil",), 1, ()), (("nil", "+"), 1, ()), NOT], ["nil", "not"])
        with self.assertRaises(Unsound) as caught:
            softened(edition, "nil")
        self.assertEqual(caught.exception.value, ("soft", "nil"))
        self.assertIsNone(softened(edition, "not"))

    def test_what_is_no_hard_word(self):
        for wrong in ["not", "x", "+", "in", "", ["let"], ("let",)] + objects():
            with self.assertRaises(InvalidToken) as caught:
                softened(HERE, wrong)
            self.assertIs(caught.exception.value, wrong)
            with self.assertRaises(InvalidEdition):
                softened([wrong], wrong)

    def test_held_against_a_search(self):
        seen = set()
        for edition in random_editions(84, 400, 4, 3):
            for word in edition.hard():
                if (word,) in [form[0] for form in edition.forms()]:
                    continue
                newer = changed(edition, ("soft", word))
                text = softened(edition, word)
                size = naive_pairs.shortest_broken(edition, newer, 5, cap=400)
                if size != -1:
                    self.assertEqual(text and len(text) if text is None or len(text) <= 5 else None, size, told(edition, newer))
                if text is not None:
                    self.assertIs(naive_pairs.broken(edition, newer, text), True)
                seen.add(size)
        self.assertLessEqual({None, 2, 4}, seen)


class TakenOutTest(unittest.TestCase):

    def test_editions(self):
        forms = [PLUS, (("by", "_"), 1, (1,)), (("by", "_", "to"), 1, (1,)), (("nil",), 1, ())]
        edition = Edition(forms, ["by", "nil"])
        self.assertEqual(taken_out(edition, []), edition)
        self.assertEqual(taken_out(edition, [PLUS[0]]), Edition(forms[1:], ["by", "nil"]))
        self.assertEqual(taken_out(edition, [("by", "_")]), Edition([forms[0]] + forms[2:], ["by", "nil"]))
        self.assertEqual(taken_out(edition, [("by", "_"), ("by", "_", "to")]), Edition([PLUS, forms[3]], ["nil"]))
        self.assertEqual(taken_out(edition, [("nil",), ("by", "_", "to"), PLUS[0], ("by", "_")]), Edition([], []))

    def test_what_is_no_list_of_patterns(self):
        for wrong in [[PLUS[0], PLUS[0]], [TIMES[0]], [PLUS], (PLUS[0],), PLUS[0], None, [list(PLUS[0])], [PLUS[0], None], {}, [[]], [("_", "+")]]:
            for ask in (taken_out, lost_reasons):
                with self.assertRaises(InvalidPattern) as caught:
                    ask(HERE, wrong)
                self.assertIs(caught.exception.value, wrong)
                with self.assertRaises(InvalidEdition):
                    ask(None, wrong)
        for thing in objects():
            if not isinstance(thing, list) or thing:
                with self.assertRaises(InvalidPattern) as caught:
                    taken_out(HERE, thing)
                self.assertIs(caught.exception.value, thing)

    def test_lost_reasons(self):
        by, both = (("_", "by", "_", "w"), 3, (3, 0)), (("w", "_"), 5, (5,))
        rows = [
            ([NAY, both, by], [], [("w", "_")], [("names", "not", "w")]), ([NAY, both, by], [], [by[0]], []), ([NAY, both, by], [], [NAY[0]], []),
            # A hard word; one that is left as a head, or as no token at all; the other form is taken out, too.
            ([NAY, both, by], ["w"], [("w", "_")], []), ([NAY, both, by, (("w", "_", "!"), 5, (5,))], [], [("w", "_")], []),
            ([NAY, both], [], [("w", "_")], []), ([NAY, both, by], [], [("w", "_"), by[0]], []), ([NAY, both, by], [], [("w", "_"), NAY[0]], []),
            ([NAY, both, by], ["not"], [("w", "_")], []), ([NAY, (("w", "_"), 5, (5,)), (("_", "w", "_"), 3, (3, 4))], [], [("w", "_")], [("names", "not", "w")]),
        ]
        for forms, hard, patterns, wanted in rows:
            self.assertEqual(lost_reasons(Edition(forms, hard), patterns), wanted, (forms, hard, patterns))

    def test_held_against_the_texts_without_the_forms(self):
        seen = set()
        source = random.Random(85)
        for edition in random_editions(85, 260, 5, 3):
            patterns = [form[0] for form in edition.forms()]
            out = source.sample(patterns, source.randint(0, min(3, len(patterns))))
            less = taken_out(edition, out)
            found = lost_reasons(edition, out)
            size = naive_pairs.shortest_broken(edition, less, 4, without=out, cap=250)
            if size != -1 and size is not None:
                self.assertNotEqual(found, [], told(edition, less))
            if found == []:
                self.assertIn(size, (None, -1), told(edition, less))
            for _, first, word in found:
                self.assertIs(naive_pairs.begins_value(less, word), False)
                self.assertIn((first, "_"), [pattern[:2] for pattern in patterns if pattern not in out])
            seen.add((found == [], size is None))
        self.assertLessEqual({(True, True), (False, False)}, seen)
