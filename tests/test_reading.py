"""Points 20 to 23: places, and how texts are read."""

import random
import unittest

from keptreadings.editions import Edition, numbers
from keptreadings.errors import InvalidCount, UnknownPlace
from keptreadings.reading import goes_on, places, read, standing, taken
from keptreadings.tokens import cut
from tests import naive
from tests.samples import LET, NOT, PLUS, TIMES, objects, random_editions

HERE = Edition([PLUS, TIMES, LET, NOT], ["let"])
SHORT, LONG = (("if", "_", "then", "_"), 2, (0, 3)), (("if", "_", "then", "_", "else", "_"), 2, (0, 3, 2))
NIL, NILS = (("nil",), 5, ()), (("nil", "all"), 5, ())
CALL, UNIT = (("_", "[", "_", "]"), 9, (9, 0)), (("[", "]"), 7, ())


def name(word):
    return ("name", word)


class PlacesTest(unittest.TestCase):

    def test_places(self):
        self.assertEqual(places(Edition([], [])), [])
        self.assertEqual(places(Edition([SHORT, LONG], [])), [LONG[0][:many] for many in range(1, 7)])
        self.assertEqual(places(Edition([CALL, UNIT], [])),
                         [("[",), ("[", "]"), ("_", "["), ("_", "[", "_"), ("_", "[", "_", "]")])
        self.assertEqual(places(Edition([NIL], ["nil"])), [("nil",)])

    def test_goes_on(self):
        both = Edition([SHORT, LONG, NIL, NILS, (("nil", "one", "more"), 5, ()), CALL], ["nil"])
        rows = [
            (("if",), (False, 0, [])), (("if", "_"), (False, None, ["then"])), (("if", "_", "then"), (False, 3, [])),
            (SHORT[0], (True, None, ["else"])), (("if", "_", "then", "_", "else"), (False, 2, [])), (LONG[0], (True, None, [])),
            (("nil",), (True, None, ["all", "one"])), (("nil", "all"), (True, None, [])), (("nil", "one"), (False, None, ["more"])),
            (("_", "["), (False, 0, [])), (("_", "[", "_"), (False, None, ["]"])), (CALL[0], (True, None, [])),
        ]
        for place, wanted in rows:
            self.assertEqual(goes_on(both, place), wanted, place)
            self.assertIs(goes_on(both, place)[0], wanted[0])

    def test_tokens_ascend(self):
        forms = [(("a", "_", token), 1, (1,)) for token in ("z", "b", "+", "c", "!")]
        self.assertEqual(goes_on(Edition(forms, []), ("a", "_")), (False, None, ["!", "+", "b", "c", "z"]))

    def test_no_place(self):
        none = [(), ("_",), ("a",), ("+",), ("_", "+", "_", "+"), ("then",), ("let", "in"), ("_", "_"), ["let"], "let",
                (("let",),), ("let", "_", "in", "_", "_"), (["let"],), ({},), ("form", ("let",))]
        for place in none + [thing for thing in objects() if thing != PLUS[0]]:
            with self.assertRaises(UnknownPlace) as caught:
                goes_on(HERE, place)
            self.assertIs(caught.exception.value, place)
        for place in (("let",), ()):
            with self.assertRaises(UnknownPlace):
                goes_on(Edition([], []), place)

    def test_places_of_many(self):
        for edition in random_editions(20, 60, 6, 9):
            wanted = {one[:many] for one, _, _ in edition.forms() for many in range(1, len(one) + 1)} - {("_",)}
            self.assertEqual(places(edition), sorted(wanted))
            reading = naive.Reading(edition.forms(), edition.hard(), [])
            for place in places(edition):
                hole = reading.hole(place + ("_",)) if reading.has_hole(place) else None
                told = (reading.ends(place), hole, sorted(set(reading.follow(place))))
                self.assertEqual(goes_on(edition, place), told)


class ReadTest(unittest.TestCase):

    def reads(self, edition, line, tree):
        self.assertEqual(read(edition, cut(line)), ("read", tree), line)
        self.assertEqual(len(taken(edition, cut(line))), len(cut(line)))

    def faults(self, edition, line, at):
        self.assertEqual(read(edition, cut(line)), ("fault", at), line)
        self.assertEqual(len(taken(edition, cut(line))), at)

    def test_leaves(self):
        none = Edition([], [])
        self.reads(none, "a", name("a"))
        self.reads(none, "'let", name("let"))
        self.reads(none, "17", ("number", "17"))
        self.reads(none, "((a))", name("a"))
        self.faults(none, "", 0)
        self.faults(none, "a b", 1)
        self.faults(none, "+", 0)
        self.faults(none, "()", 1)
        self.faults(none, ")", 0)
        self.faults(none, "(a", 2)
        self.faults(none, "(", 1)
        self.faults(none, "a)", 1)
        self.faults(none, "(a))", 3)
        self.faults(none, "a(", 1)
        self.faults(none, "a 1", 1)
        self.faults(none, "1 'a", 1)

    def test_quoted_words_are_names(self):
        self.reads(HERE, "'let + 'not", (PLUS[0], [name("let"), name("not")]))
        self.reads(HERE, "not 'in", (NOT[0], [name("in")]))
        self.faults(HERE, "let 'x 'in y", 2)

    def test_hard_words_and_signs_begin_forms(self):
        self.reads(HERE, "let a in b", (LET[0], [name("a"), name("b")]))
        self.faults(HERE, "let", 1)
        self.faults(HERE, "let + a", 1)
        self.faults(HERE, "let in a", 2)
        self.faults(HERE, "let in", 2)
        self.faults(HERE, "a + let", 2)
        sign = Edition([(("-", "_"), 8, (8,)), (("_", "-", "_"), 4, (4, 5)), UNIT], [])
        self.reads(sign, "- - a - - b", (("_", "-", "_"), [(("-", "_"), [(("-", "_"), [name("a")])]), (("-", "_"), [name("b")])]))
        self.reads(sign, "[]", (UNIT[0], []))
        self.faults(sign, "-", 1)
        self.faults(sign, "[ a", 1)
        self.faults(sign, "[ [ ]", 1)

    def test_soft_words_by_the_token_behind(self):
        self.reads(HERE, "not", name("not"))
        self.reads(HERE, "not + a", (PLUS[0], [name("not"), name("a")]))
        self.reads(HERE, "(not)", name("not"))
        for line, tree in (("x", name("x")), ("1", ("number", "1")), ("'x", name("x")), ("(x)", name("x"))):
            self.reads(HERE, "not " + line, (NOT[0], [tree]))
        self.reads(HERE, "not not", (NOT[0], [name("not")]))
        self.reads(HERE, "not not x", (NOT[0], [(NOT[0], [name("x")])]))
        # A middle word begins no value, so ahead of it the soft word is a name.
        self.faults(HERE, "not in", 1)
        self.reads(HERE, "let not in in", (LET[0], [name("not"), name("in")]))
        # The head of another form begins a value, also one that stands too low.
        self.faults(HERE, "not let a in b", 1)

    def test_a_soft_word_whose_next_token_follows_it(self):
        edition = Edition([(("go", "to", "_"), 5, (5,)), (("go", "!"), 5, ()), PLUS], [])
        self.reads(edition, "go to x", (("go", "to", "_"), [name("x")]))
        self.faults(edition, "go x", 1)
        self.faults(edition, "go (", 1)
        self.reads(edition, "go", name("go"))
        self.reads(edition, "to", name("to"))
        self.faults(edition, "go to", 2)

    def test_a_soft_word_by_the_sign_that_follows_it(self):
        edition = Edition([(("go", "!"), 5, ()), (("go", "?", "_"), 5, (5,)), (("_", "+", "_"), 4, (4, 5))], [])
        self.reads(edition, "go !", (("go", "!"), []))
        self.reads(edition, "go + go ? go", (("_", "+", "_"), [name("go"), (("go", "?", "_"), [name("go")])]))
        self.faults(edition, "go x", 1)

    def test_tail_and_middle_words_as_names(self):
        edition = Edition([(("_", "by", "_"), 4, (4, 5)), LET, NOT], [])
        self.reads(edition, "by by by", (("_", "by", "_"), [name("by"), name("by")]))
        self.reads(edition, "in by in", (("_", "by", "_"), [name("in"), name("in")]))
        # Behind a soft word they do not begin a value, so it is the name.
        self.reads(edition, "not by x", (("_", "by", "_"), [name("not"), name("x")]))
        self.faults(edition, "not by", 2)
        self.faults(edition, "let in in x", 1)
        self.reads(edition, "let x in in", (LET[0], [name("x"), name("in")]))
        hard = Edition([LET, (("_", "by", "_"), 4, (4, 5))], ["let"])
        self.reads(hard, "let in in by", (LET[0], [name("in"), name("by")]))

    def test_a_word_that_is_both_first_and_middle(self):
        edition = Edition([(("if", "_", "then", "_"), 1, (0, 1)), (("then", "_"), 3, (0,))], [])
        # It begins a value as a head's first token, whatever comes of it.
        self.assertEqual(read(edition, ["if", "then", "x", "then", "y"]),
                         ("read", (("if", "_", "then", "_"), [(("then", "_"), [name("x")]), name("y")])))
        self.assertEqual(read(edition, ["if", "then"]), naive.read(edition, ["if", "then"]))

    def test_own_level_below_the_level_asked(self):
        self.faults(HERE, "a + let x in y", 2)
        self.reads(HERE, "a + (let x in y)", (PLUS[0], [name("a"), (LET[0], [name("x"), name("y")])]))
        self.reads(HERE, "a * not x", (TIMES[0], [name("a"), (NOT[0], [name("x")])]))
        self.reads(HERE, "let let a in b in let c in d",
                   (LET[0], [(LET[0], [name("a"), name("b")]), (LET[0], [name("c"), name("d")])]))
        low = Edition([TIMES, (("w", "_"), 6, (0,)), (("v", "_"), 7, (0,))], [])
        self.faults(low, "a * w x", 2)
        self.reads(low, "a * v x", (TIMES[0], [name("a"), (("v", "_"), [name("x")])]))
        self.reads(low, "a * w", (TIMES[0], [name("a"), name("w")]))

    def test_tails_by_their_levels(self):
        a, b, c = name("a"), name("b"), name("c")
        self.reads(HERE, "a + b + c", (PLUS[0], [(PLUS[0], [a, b]), c]))
        self.reads(HERE, "a + b * c", (PLUS[0], [a, (TIMES[0], [b, c])]))
        self.reads(HERE, "a * b + c", (PLUS[0], [(TIMES[0], [a, b]), c]))
        self.reads(HERE, "(a + b) * c", (TIMES[0], [(PLUS[0], [a, b]), c]))
        self.reads(HERE, "a * (b + c)", (TIMES[0], [a, (PLUS[0], [b, c])]))
        self.reads(HERE, "not a * b", (TIMES[0], [(NOT[0], [a]), b]))
        right = Edition([(("_", "^", "_"), 7, (8, 7))], [])
        self.reads(right, "a ^ b ^ c", (("_", "^", "_"), [a, (("_", "^", "_"), [b, c])]))
        self.reads(right, "(a ^ b) ^ c", (("_", "^", "_"), [(("_", "^", "_"), [a, b]), c]))

    def test_left_level_above_the_level_of_the_value(self):
        none = Edition([(("_", "=", "_"), 3, (4, 4))], [])
        self.faults(none, "a = b = c", 3)
        self.reads(none, "(a = b) = c", (("_", "=", "_"), [(("_", "=", "_"), [name("a"), name("b")]), name("c")]))
        just = Edition([(("_", "=", "_"), 3, (3, 4))], [])
        self.reads(just, "a = b = c", (("_", "=", "_"), [(("_", "=", "_"), [name("a"), name("b")]), name("c")]))
        nil = Edition([NIL, (("_", "!"), 9, (6,)), (("_", "?"), 9, (5,))], ["nil"])
        self.faults(nil, "nil !", 1)
        self.reads(nil, "(nil) !", (("_", "!"), [(NIL[0], [])]))
        self.reads(nil, "nil ?", (("_", "?"), [(NIL[0], [])]))
        self.reads(nil, "a ! ! ?", (("_", "?"), [(("_", "!"), [(("_", "!"), [name("a")])])]))

    def test_due_tokens(self):
        edition = Edition([(("a", "b", "c"), 1, ()), (("_", "+", "!", "_"), 4, (4, 5)), CALL], ["a"])
        self.reads(edition, "a b c", (("a", "b", "c"), []))
        self.faults(edition, "a b b", 2)
        self.faults(edition, "a b", 2)
        self.faults(edition, "a (b c", 1)
        self.reads(edition, "x + ! y", (("_", "+", "!", "_"), [name("x"), name("y")]))
        self.faults(edition, "x + y", 2)
        self.reads(edition, "x[y]", (CALL[0], [name("x"), name("y")]))
        self.faults(edition, "x[y", 3)
        self.faults(edition, "x[]", 2)
        self.faults(edition, "x[y)", 3)
        self.faults(edition, "(x[y)]", 4)

    def test_forms_that_go_on_or_end(self):
        edition = Edition([SHORT, LONG, PLUS, NIL, NILS], ["nil"])
        a, b, c = name("a"), name("b"), name("c")
        self.reads(edition, "if a then b", (SHORT[0], [a, b]))
        self.reads(edition, "if a then b else c", (LONG[0], [a, b, c]))
        self.reads(edition, "if a then (if b then c) else a", (LONG[0], [a, (SHORT[0], [b, c]), a]))
        self.faults(edition, "if a then if b then c", 3)
        self.reads(edition, "nil", (NIL[0], []))
        self.reads(edition, "nil all", (NILS[0], []))
        self.reads(edition, "nil + nil all", (PLUS[0], [(NIL[0], []), (NILS[0], [])]))
        # What stood in a bracket is no form any more, so it does not go on.
        self.faults(edition, "(nil) all", 3)
        self.faults(edition, "nil all all", 2)

    def test_a_value_goes_on_ahead_of_the_frame(self):
        edition = Edition([(("+",), 5, ()), (("+", "b"), 5, ()), (("!", "_", "b", "_"), 1, (0, 0))], [])
        self.reads(edition, "! + b b x", (("!", "_", "b", "_"), [(("+", "b"), []), name("x")]))
        self.faults(edition, "! + b x", 3)
        self.reads(edition, "! (+) b x", (("!", "_", "b", "_"), [(("+",), []), name("x")]))

    def test_a_form_that_goes_on_keeps_its_trees(self):
        forms = [(("a", "_", "b"), 5, (0,)), (("a", "_", "b", "c"), 5, (0,)), (("a", "_", "b", "d", "_"), 5, (0, 0)), TIMES]
        edition = Edition(forms, [])
        x, y = name("x"), (TIMES[0], [name("y"), name("z")])
        self.reads(edition, "a x b", (("a", "_", "b"), [x]))
        self.reads(edition, "a x b c", (("a", "_", "b", "c"), [x]))
        self.reads(edition, "a y * z b c", (("a", "_", "b", "c"), [y]))
        self.reads(edition, "a x b d y * z", (("a", "_", "b", "d", "_"), [x, y]))
        self.reads(edition, "a a x b b d x", (("a", "_", "b", "d", "_"), [(("a", "_", "b"), [x]), x]))
        self.reads(Edition([(("_", "+"), 5, (0,))], []), "x + +",
                   (("_", "+"), [(("_", "+"), [x])]))
        self.reads(Edition([(("_", "[", "_", "]"), 5, (0, 0)), (("_", "[", "_", "]", "!"), 5, (0, 0))], []), "x [ x ] !",
                   (("_", "[", "_", "]", "!"), [x, x]))

    def test_the_inner_frame_takes_first(self):
        edition = Edition([(SHORT[0], 2, (0, 2)), (LONG[0], 2, (0, 2, 2))], [])
        inner = (LONG[0], [name("b"), name("c"), name("d")])
        self.reads(edition, "if a then if b then c else d", (SHORT[0], [name("a"), inner]))
        self.reads(edition, "if a then if b then c else d else e", (LONG[0], [name("a"), inner, name("e")]))
        self.faults(edition, "if a then b else c else d", 6)

    def test_frames_that_may_not_end(self):
        self.faults(HERE, "let a + b", 4)
        self.faults(HERE, "let a + b c", 4)
        self.faults(HERE, "let a )", 2)
        self.faults(HERE, "(let a in b", 5)
        self.reads(HERE, "(let a in b)", (LET[0], [name("a"), name("b")]))
        self.faults(HERE, "(let a) in b", 3)
        self.reads(HERE, "let a + b * c in b",
                   (LET[0], [(PLUS[0], [name("a"), (TIMES[0], [name("b"), name("c")])]), name("b")]))

    def test_a_tail_ends_frames_above_its_level(self):
        edition = Edition([PLUS, TIMES, (("f", "_"), 9, (5,)), (("g", "_"), 9, (0,))], ["f", "g"])
        a, b, c = name("a"), name("b"), name("c")
        self.reads(edition, "f a + b", (PLUS[0], [(("f", "_"), [a]), b]))
        self.reads(edition, "f a * b", (("f", "_"), [(TIMES[0], [a, b])]))
        self.reads(edition, "g a + b", (("g", "_"), [(PLUS[0], [a, b])]))
        self.reads(edition, "f a * g b + c", (("f", "_"), [(TIMES[0], [a, (("g", "_"), [(PLUS[0], [b, c])])])]))

    def test_results_are_new(self):
        text = cut("a + b * c")
        read(HERE, text)[1][1].clear()
        self.assertEqual(len(read(HERE, text)[1][1]), 2)
        self.assertEqual(text, cut("a + b * c"))

    def test_every_text_has_one_outcome(self):
        edition = Edition([(("a", "_", "+"), 1, (1,)), (("_", "-"), 1, (1,))], [])
        for text in naive.all_texts(["a", "+", "-", "(", ")", "1"], 5):
            self.assertEqual(read(edition, text), naive.read(edition, text), text)


class TakenTest(unittest.TestCase):

    def test_taken(self):
        plus, times = ("form", ("_", "+")), ("form", ("_", "*"))
        self.assertEqual(taken(HERE, []), [])
        self.assertEqual(taken(HERE, cut("( a + 1 ) * 'b")),
                         [("open",), ("name",), plus, ("number",), ("close",), times, ("name",)])
        self.assertEqual(taken(HERE, cut("let a in b")), [("form", ("let",)), ("name",), ("form", ("let", "_", "in")), ("name",)])
        self.assertEqual(taken(HERE, cut("not + not x")), [("name",), plus, ("form", ("not",)), ("name",)])
        self.assertEqual(taken(HERE, cut("a + ) b")), [("name",), plus])
        self.assertEqual(taken(HERE, cut("( a")), [("open",), ("name",)])
        self.assertEqual(taken(HERE, cut(")")), [])
        nil = Edition([NIL, NILS, (CALL[0], 9, (5, 0))], ["nil"])
        self.assertEqual(taken(nil, cut("nil all [ nil ]")), [
            ("form", ("nil",)), ("form", ("nil", "all")), ("form", ("_", "[")), ("form", ("nil",)), ("form", CALL[0])])


class StandingTest(unittest.TestCase):

    def test_standing_at_every_position(self):
        text = cut("( a + let")
        plus = ("form", PLUS[0])
        wanted = [([], ("wanted",)), ([("bracket",)], ("wanted",)), ([("bracket",)], ("had", 10, None)),
                  ([("bracket",), plus], ("wanted",)), None]
        self.assertEqual([standing(HERE, text, at) for at in range(5)], wanted)

    def test_frames_that_the_next_token_would_end_still_stand(self):
        text = cut("a * b + c")
        self.assertEqual(standing(HERE, text, 3), ([("form", TIMES[0])], ("had", 10, None)))
        self.assertEqual(standing(HERE, text, 4), ([("form", PLUS[0])], ("wanted",)))
        self.assertEqual(standing(HERE, text, 5), ([("form", PLUS[0])], ("had", 10, None)))

    def test_the_modes(self):
        edition = Edition([NIL, NILS, (("a", "b", "c"), 1, ()), (("_", "!"), 6, (1,))], ["nil"])
        self.assertEqual(standing(edition, ["nil"], 1), ([], ("had", 5, ("nil",))))
        self.assertEqual(standing(edition, ["nil", "all"], 1), ([], ("had", 5, ("nil",))))
        self.assertEqual(standing(edition, ["nil", "all"], 2), ([], ("had", 5, None)))
        self.assertEqual(standing(edition, ["nil", "!"], 2), ([], ("had", 6, None)))
        self.assertEqual(standing(edition, ["(", "nil", ")"], 3), ([], ("had", 10, None)))
        self.assertEqual(standing(edition, ["(", "a", "b"], 2), ([("bracket",)], ("due", ("a",))))
        self.assertEqual(standing(edition, ["a", "b"], 2), ([], ("due", ("a", "b"))))
        self.assertEqual(standing(edition, ["a", "b", "c"], 3), ([], ("had", 1, None)))
        self.assertEqual(standing(edition, ["7"], 1), ([], ("had", 10, None)))

    def test_the_last_token_is_read_by_the_one_behind_it(self):
        self.assertEqual(standing(HERE, ["not"], 1), ([], ("had", 10, None)))
        self.assertEqual(standing(HERE, ["not", "x"], 1), ([("form", NOT[0])], ("wanted",)))
        self.assertEqual(standing(HERE, ["not", "+"], 1), ([], ("had", 10, None)))
        self.assertEqual(standing(HERE, ["not", ")"], 1), ([], ("had", 10, None)))

    def test_behind_the_fault(self):
        text = cut("a + + b c")
        self.assertEqual([standing(HERE, text, at) is None for at in range(6)], [False] * 3 + [True] * 3)
        self.assertEqual(standing(HERE, [], 0), ([], ("wanted",)))
        self.assertEqual(standing(HERE, ["("], 1), ([("bracket",)], ("wanted",)))

    def test_counts(self):
        for at in (-1, 2, True, False, None, "0", 10 ** 30, [0], (0,)):
            with self.assertRaises(InvalidCount) as caught:
                standing(HERE, ["a"], at)
            self.assertIs(caught.exception.value, at)


class AgainstAPlainWritingTest(unittest.TestCase):

    def grown_text(self, source, edition, tokens, most):
        """A text of which no token ahead of the last one is the fault, if one is found."""
        text = []
        for _ in range(source.randint(0, most)):
            for _ in range(6):
                longer = text + [source.choice(tokens)]
                fault = naive.Reading(edition.forms(), edition.hard(), longer).fault
                if fault is None or fault >= len(text):
                    text = longer
                    break
        return text

    def test_many_editions_and_texts(self):
        source = random.Random(21)
        read_ones = 0
        for edition in random_editions(21, 250, 8, 9):
            tokens = naive.tokens_of(edition) + ["'a"]
            for _ in range(12):
                text = self.grown_text(source, edition, tokens, 20)
                told = naive.Reading(edition.forms(), edition.hard(), text)
                self.assertEqual(read(edition, text), told.outcome(), (edition.forms(), text))
                self.assertEqual(taken(edition, text), told.hows)
                states = told.states + [None] * (len(text) + 1 - len(told.states))
                self.assertEqual([standing(edition, text, at) for at in range(len(text) + 1)], states)
                read_ones += told.fault is None
        self.assertGreater(read_ones, 100)

    def test_own_levels_are_those_of_the_keys(self):
        # A value that is had has the level of its own key.
        for edition in random_editions(22, 40, 6, 9):
            levels = numbers(edition)
            for pattern, level, _ in edition.forms():
                key = ("tail", pattern[1]) if pattern[0] == "_" else ("head", pattern[0])
                self.assertEqual(levels[key], level)
