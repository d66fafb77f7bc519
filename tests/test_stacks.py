"""Points 35 to 37: frames, stacks, and what leads to them and ends them."""

import random
import unittest

from keptreadings.editions import Edition
from keptreadings.errors import InvalidEdition, InvalidStack
from keptreadings.reading import read, standing
from keptreadings.stacks import ending, ending_size, frames, is_ending, is_leading, is_stack, leading, leading_size, next_frames
from tests import naive
from tests.samples import LET, NOT, PLUS, TIMES, objects, random_editions

SHORT, FULL = (("if", "_", "then", "_"), 1, (0, 1)), (("if", "_", "then", "_", "else", "_"), 1, (0, 1, 1))
SURE = Edition([SHORT, FULL, (("or", "_", "else", "_"), 1, (1, 1)), (("_", "+", "_"), 5, (5, 6))], [])
BRACKET, BOTTOM = ("bracket",), ("bottom",)
IF, THEN, ELSE = ("form", ("if", "_")), ("form", SHORT[0]), ("form", FULL[0])
OR, LAST, SUM = ("form", ("or", "_")), ("form", ("or", "_", "else", "_")), ("form", PLUS[0])
EMPTY = Edition([], [])


class FramesTest(unittest.TestCase):

    def test_frames(self):
        self.assertEqual(frames(SURE), [BRACKET, SUM, IF, THEN, ELSE, OR, LAST])
        self.assertEqual(frames(EMPTY), [BRACKET])
        self.assertEqual(frames(Edition([(("nil",), 1, ()), (("_", "!"), 1, (1,)), (("a", "b", "_", "c"), 1, (1,))], ["nil"])),
                         [BRACKET, ("form", ("a", "b", "_"))])

    def test_next_frames(self):
        self.assertEqual(next_frames(SURE, BOTTOM), frames(SURE))
        self.assertEqual(next_frames(SURE, BRACKET), frames(SURE))
        self.assertEqual(next_frames(SURE, SUM), [BRACKET])
        for frame in (THEN, ELSE, OR, LAST, IF):
            self.assertEqual(next_frames(SURE, frame), frames(SURE))
        here = Edition([PLUS, TIMES, LET, NOT], [])
        plus, times, no = ("form", PLUS[0]), ("form", TIMES[0]), ("form", NOT[0])
        self.assertEqual(next_frames(here, plus), [BRACKET, times, no])
        self.assertEqual(next_frames(here, times), [BRACKET, no])
        self.assertEqual(next_frames(here, no), [BRACKET, no])
        self.assertEqual(next_frames(EMPTY, BOTTOM), [BRACKET])

    def test_no_frame(self):
        wrong = [("form", ("_", "+")), ("form", ("if",)), ("form", ("_",)), ("form", ["if", "_"]), ["form", ("if", "_")], (),
                 ("form",), ("form", ("if", "_"), 1), ("bracket", 1), ["bracket"], "bracket", None, [], ("form", SHORT[0][:3])]
        wrong += [thing for thing in objects() if thing not in frames(SURE) + [BOTTOM]]
        for frame in wrong:
            with self.assertRaises(InvalidStack) as caught:
                next_frames(SURE, frame)
            self.assertIs(caught.exception.value, frame)
            self.assertIs(is_stack(SURE, [frame]), False)
        self.assertIs(is_stack(SURE, [BOTTOM]), False)
        self.assertIs(is_stack(SURE, [BOTTOM, IF]), False)

    def test_stacks(self):
        for stack in ([], [BRACKET], [BRACKET] * 9, [THEN, SUM], [SUM, BRACKET, SUM, BRACKET, THEN], [IF, OR, ELSE, LAST]):
            self.assertIs(is_stack(SURE, stack), True)
            self.assertIs(is_stack(SURE, tuple(stack)), False)
        for stack in ([SUM, THEN], [SUM, SUM], [BRACKET, SUM, IF], [IF, SUM, BRACKET, SUM, SUM], [None], [[]], None, IF, {}):
            self.assertIs(is_stack(SURE, stack), False)

    def test_any_object(self):
        for thing in objects():
            wanted = isinstance(thing, list) and thing in ([], [BRACKET])
            self.assertIs(is_stack(SURE, thing), wanted)
            for ask in (leading, leading_size, ending, ending_size):
                if not wanted:
                    with self.assertRaises(InvalidStack) as caught:
                        ask(SURE, thing)
                    self.assertIs(caught.exception.value, thing)
            for ask in (is_leading, is_ending):
                if not wanted:
                    with self.assertRaises(InvalidStack) as caught:
                        ask(SURE, thing, thing)
                    self.assertIs(caught.exception.value, thing)
                self.assertIs(ask(SURE, [IF, SUM], thing), False)
                with self.assertRaises(InvalidEdition):
                    ask([thing], thing, thing)

    def test_the_stacks_are_those_of_texts_that_are_read(self):
        for edition in random_editions(35, 60, 5, 3):
            seen = []
            for text in naive.all_texts(naive.tokens_of(edition)[:7], 4):
                for stack, mode in naive.Reading(edition.forms(), edition.hard(), text).states:
                    if mode == ("wanted",) and stack not in seen:
                        seen.append(stack)
                        self.assertIs(is_stack(edition, stack), True, (edition.forms(), stack))
                if len(seen) > 40:
                    break


def random_stack(source, edition, most):
    stack = []
    for _ in range(source.randint(0, most)):
        stack.append(source.choice(next_frames(edition, stack[-1] if stack else BOTTOM)))
    return stack


class LeadingTest(unittest.TestCase):

    def test_sizes(self):
        rows = [([], 0), ([BRACKET], 1), ([IF], 1), ([THEN], 3), ([ELSE], 5), ([SUM], 2), ([THEN, SUM], 5),
                ([BRACKET, BRACKET, OR, ELSE], 8)]
        for stack, size in rows:
            told = leading(SURE, stack)
            self.assertEqual((len(told), leading_size(SURE, stack)), (size, size))
            self.assertIs(is_leading(SURE, stack, told), True)
            self.assertEqual(standing(SURE, told + ["x"], size), (stack, ("wanted",)))

    def test_is_leading(self):
        self.assertIs(is_leading(SURE, [], []), True)
        self.assertIs(is_leading(SURE, [IF], ["if"]), True)
        for right in (["if", "x", "then"], ["if", "7", "then"], ["if", "'if", "then"], ["if", "if", "then"]):
            self.assertIs(is_leading(SURE, [THEN], right), True, right)
        for wrong in (["if", "x", "else"], ["if", "x"], ["if", "(", "x", ")", "then"], ["(", "x", ")"], ["if", "x", "then", "x"],
                      ["or", "x", "else"], ["if", "+", "then"], ["if", "else", "then"], [], ("if", "x", "then"), ["if", "x", "THEN"], ["x", "+", "x"],
                      ["if", "x", None], "if", None):
            self.assertIs(is_leading(SURE, [THEN], wrong), False, wrong)
        self.assertIs(is_leading(SURE, [THEN, SUM], ["if", "x", "then", "x", "+"]), True)
        self.assertIs(is_leading(SURE, [BRACKET], ["if"]), False)
        self.assertIs(is_leading(SURE, [SUM], ["if", "+"]), True)
        self.assertIs(is_leading(SURE, [SUM], ["+", "+"]), False)
        self.assertIs(is_leading(SURE, [], ["x"]), False)

    def test_soft_words_by_the_number_behind(self):
        # The word alone leads to its frame only as the number behind begins a value.
        edition = Edition([NOT, (("go", "by", "_"), 9, (0,)), (("_", "*", "_"), 8, (1, 8))], [])
        no, go, times = ("form", NOT[0]), ("form", ("go", "by", "_")), ("form", TIMES[0])
        for stack in ([no], [no, no], [no, go], [go, no], [no, times, go], [no, BRACKET, times]):
            self.assertIs(is_leading(edition, stack, leading(edition, stack)), True, stack)
        self.assertEqual(leading(edition, [no, no]), ["not", "not"])
        self.assertIs(is_leading(edition, [no, times], ["not", "not", "*"]), True)
        self.assertIs(is_leading(edition, [times], ["not", "*"]), True)

    def test_many(self):
        source = random.Random(36)
        for edition in random_editions(36, 150, 8, 9):
            for _ in range(4):
                stack = random_stack(source, edition, 6)
                told = leading(edition, stack)
                self.assertEqual(len(told), leading_size(edition, stack))
                self.assertEqual(len(told), sum(1 if frame == BRACKET else len(frame[1]) - 1 for frame in stack))
                self.assertIs(is_leading(edition, stack, told), True)
                self.assertIs(is_leading(edition, stack, ["("] + told), False)
                self.assertIs(is_leading(edition, stack, told[1:]), not told)
                reading = naive.Reading(edition.forms(), edition.hard(), told + ["1"])
                self.assertEqual(reading.states[len(told)], (stack, ("wanted",)))

    def test_no_shorter_list_leads(self):
        for edition in random_editions(37, 40, 3, 3):
            met = {}
            for text in naive.all_texts(naive.tokens_of(edition)[:6], 4):
                reading = naive.Reading(edition.forms(), edition.hard(), text + ["1"])
                if reading.fault is None or reading.fault > len(text):
                    stack, mode = reading.states[len(text)]
                    if mode == ("wanted",):
                        met.setdefault(repr(stack), (stack, len(text)))
            for stack, size in met.values():
                self.assertEqual(leading_size(edition, stack), size)


class EndingTest(unittest.TestCase):

    def ends(self, edition, stack, size):
        told = ending(edition, stack)
        self.assertEqual((len(told), ending_size(edition, stack)), (size, size), (stack, told))
        self.assertIs(is_ending(edition, stack, told), True)
        self.assertEqual(read(edition, leading(edition, stack) + told)[0], "read")
        return told

    def test_sizes(self):
        for stack, size in (([], 1), ([BRACKET], 2), ([THEN], 1), ([ELSE, THEN, SUM], 1), ([IF], 3), ([OR], 3), ([OR, THEN], 5),
                            ([OR, BRACKET, THEN], 4), ([IF, IF], 5), ([OR, OR], 5), ([OR, THEN, THEN], 7), ([BRACKET] * 5, 6)):
            self.ends(SURE, stack, size)
        self.ends(EMPTY, [], 1)
        self.ends(EMPTY, [BRACKET, BRACKET], 3)

    def test_is_ending(self):
        right = [["x", "else", "x"], ["7", "else", "'or"], ["'if", "else", "or"], ["x", "else", "else"]]
        for tokens in right:
            self.assertIs(is_ending(SURE, [OR], tokens), True, tokens)
        wrong = [["if", "else", "x"], ["or", "else", "x"], ["else", "else", "x"], ["then", "else", "x"], ["x", "else"],
                 ["x", "else", "x", "+", "x"], ["x", "+", "x"], ["(", "x", ")"], ["x", "else", "+"], [], None, ("x", "else", "x"),
                 ["x", "else", None], ["x", "else", "X"], "x", ["x"], ["x", ")", "x"]]
        for tokens in wrong:
            self.assertIs(is_ending(SURE, [OR], tokens), False, tokens)
        self.assertIs(is_ending(SURE, [], ["x"]), True)
        self.assertIs(is_ending(SURE, [], ["+"]), False)
        self.assertIs(is_ending(SURE, [], ["if"]), False)
        self.assertIs(is_ending(SURE, [], ["'if"]), True)
        self.assertIs(is_ending(SURE, [BRACKET], ["x", ")"]), True)

    def test_a_frame_takes_its_own_first(self):
        self.assertIs(is_ending(SURE, [OR, THEN], ["x", "else", "x", "else", "x"]), True)
        self.assertIs(is_ending(SURE, [OR, THEN], ["x", "else", "x"]), False)
        longer = Edition([(("a", "_"), 1, (1,)), (("a", "_", "c", "d"), 1, (1,)), (("b", "_", "c"), 1, (1,))], [])
        self.assertEqual(self.ends(longer, [("form", ("b", "_")), ("form", ("a", "_"))], 4)[1:], ["c", "d", "c"])

    def test_a_tail_that_a_frame_lets_by(self):
        forms = [(("a", "_"), 5, (6,)), (("a", "_", "c", "d", "d"), 5, (6,)), (("b", "_", "c"), 1, (1,))]
        stack = [("form", ("b", "_")), ("form", ("a", "_"))]
        self.ends(Edition(forms, []), stack, 5)
        self.assertEqual(self.ends(Edition(forms + [(("_", "!"), 5, (5,))], []), stack, 3)[1:], ["!", "c"])
        self.assertEqual(self.ends(Edition(forms + [(("_", "!", "_"), 1, (5, 9))], []), stack, 4)[1::2], ["!", "c"])
        # It does not help if the frame keeps it, if the frame below does, or if its left level is too high.
        self.ends(Edition(forms + [(("_", "!"), 6, (5,))], []), stack, 5)
        self.ends(Edition(forms + [(("_", "!"), 0, (5,))], []), stack, 5)
        self.ends(Edition(forms + [(("_", "!"), 5, (6,))], []), stack, 5)
        # One tail lets another one by.
        chain = forms[:1] + [(("a", "_", "c", "d", "d", "d", "d"), 5, (6,)), (("b", "_", "c"), 1, (1,))]
        first = [(("_", "!", "_"), 5, (5, 8)), (("_", "!", "_", "c", "d", "d", "d"), 5, (5, 8))]
        self.ends(Edition(chain + first + [(("_", "?"), 7, (5,))], []), stack, 5)
        # Here the first one keeps the second one, so that it takes the token that has to come by.
        self.ends(Edition(chain + first + [(("_", "?"), 8, (5,))], []), stack, 7)
        self.ends(Edition(chain + first + [(("_", "?"), 7, (6,))], []), stack, 7)

    def test_the_shortest_of_several_patterns(self):
        for long, short in (("c", "e"), ("e", "c")):
            edition = Edition([(("a", "_", long, "d", "d"), 1, (1,)), (("a", "_", short), 1, (1,))], [])
            self.assertEqual(self.ends(edition, [("form", ("a", "_"))], 2)[1:], [short])
            edition = Edition([(("a", "_", long, "_", "d"), 1, (1, 1)), (("a", "_", short, "_"), 1, (1, 1))], [])
            self.ends(edition, [("form", ("a", "_"))], 3)
            edition = Edition([(("a", "_", "t", long, "d", "d"), 1, (1,)), (("a", "_", "t", short), 1, (1,))], [])
            self.assertEqual(self.ends(edition, [("form", ("a", "_"))], 3)[1:], ["t", short])
            edition = Edition([(("a", "_", "t", "_", long, "d"), 1, (1, 1)), (("a", "_", "t", "_", short), 1, (1, 1))], [])
            self.assertEqual(self.ends(edition, [("form", ("a", "_"))], 4)[3:], [short])

    def test_forms_that_would_go_on(self):
        edition = Edition([(("b", "_", "c"), 1, (1,)), (("a", "_", "d"), 1, (1,)), (("a", "_", "d", "c"), 1, (1,))], [])
        self.assertEqual(self.ends(edition, [("form", ("b", "_")), ("form", ("a", "_"))], 4)[1:], ["d", "c", "c"])

    def test_held_against_a_search(self):
        source = random.Random(38)
        for edition in random_editions(38, 120, 6, 3):
            for _ in range(3):
                stack = random_stack(source, edition, 3)
                told = ending(edition, stack)
                self.assertEqual(len(told), ending_size(edition, stack))
                self.assertIs(is_ending(edition, stack, told), True)
                self.assertEqual(naive.read(edition, leading(edition, stack) + told)[0], "read")
                if len(told) <= 6:
                    size = naive.shortest_ending_size(edition, leading(edition, stack), len(told))
                    self.assertEqual(size, len(told), (edition.forms(), stack, told))

    def test_long_stacks(self):
        for many in (60, 300, 2000):
            stack = [IF, THEN, BRACKET, OR] * (many // 4)
            self.assertIs(is_stack(SURE, stack), True)
            told = leading(SURE, stack)
            self.assertEqual(len(told), many // 4 * 6)
            self.assertIs(is_leading(SURE, stack, told), True)
            self.assertIs(is_leading(SURE, stack, told[:-1]), False)
            # Of each [IF] the frame behind "then" takes the "else" first for which the one below waits.
            self.assertEqual(ending_size(SURE, stack), 1 + many // 4 * 7 - 2)
            self.assertIs(is_ending(SURE, stack, ending(SURE, stack)), True)
            self.assertIs(is_ending(SURE, stack, ending(SURE, stack) + ["x"]), False)
