"""The blocks of examples of the document, as they stand."""

import ast
import unittest

TOKENS = r'''
from keptreadings.tokens import cut, is_token, kind, line_of, tight_line, unmarked
[cut("if a1 then -'x*(3 )"), tight_line(["a", "b", "3", "x", "'y", "z", "-", "-"])]
# [['if', 'a', '1', 'then', '-', "'x", '*', '(', '3', ')'], "a b3x'y z--"]
[kind("'if"), kind("{"), is_token("00"), unmarked(cut("(a + 'if) * 2")), line_of(cut("a+b"))]
# ['quoted', 'sign', False, ['a', '+', 'if', '*', '2'], 'a + b']
'''

EDITIONS = r'''
from keptreadings.editions import Edition, changed_by, first_clash, numbers, told_changes
plus, short = (("_", "+", "_"), 5, (5, 6)), (("if", "_", "then", "_"), 2, (0, 3))
long = (("if", "_", "then", "_", "else", "_"), 2, (0, 3, 2))
first_clash([plus, short, long[:2] + ((0, 4, 2),)], ["if"])
# ('level', ('hole', ('if', '_', 'then', '_')))
first_clash([plus, (("+", "then"), 9, ()), (("nil",), 9, ()), short], ["it"])
# ('hard', 'it')
small = Edition([short, plus], [])
numbers(small)
# {('head', 'if'): 2, ('hole', ('_', '+', '_')): 6, ('hole', ('if', '_')): 0, ('hole', ('if', '_', 'then', '_')): 3, ('left', '+'): 5, ('tail', '+'): 5}
grown = changed_by(small, [("put", long), ("level", ("tail", "+"), 1), ("hard", "if")])
[grown.forms()[0], grown.hard(), len(told_changes(small, grown))]
# [(('_', '+', '_'), 1, (5, 6)), ['if'], 3]
loose = (("_", "+", "_"), 0, (0, 0))
told_changes(grown, Edition([loose, short, long], ["if"])) == [("out", loose[0]), ("put", loose)]
# True
'''

READING = r'''
from keptreadings.editions import Edition
from keptreadings.reading import goes_on, places, read, standing, taken
sums, times = (("_", "+", "_"), 4, (4, 5)), (("_", "*", "_"), 6, (6, 7))
here = Edition([sums, times, (("let", "_", "in", "_"), 3, (0, 0)), (("not", "_"), 8, (8,))], ["let"])
[read(here, ["a", "+", "b", "*", "c"]), read(here, ["a", "*", "let", "x"]), read(here, ["not", "+", "b"])]
# [('read', (('_', '+', '_'), [('name', 'a'), (('_', '*', '_'), [('name', 'b'), ('name', 'c')])])), ('fault', 2), ('read', (('_', '+', '_'), [('name', 'not'), ('name', 'b')]))]
[taken(here, ["not", "x"]), goes_on(here, ("let",)), goes_on(here, ("let", "_")), standing(here, ["a", "+", "b"], 2), standing(here, ["a", "+", "b"], 3)]
# [[('form', ('not',)), ('name',)], (False, 0, []), (False, None, ['in']), ([('form', ('_', '+', '_'))], ('wanted',)), ([('form', ('_', '+', '_'))], ('had', 10, None))]
[read(here, ["a", "+", "b", "+", "c"])[1][1][1], read(here, ["(", "a"]), read(here, []), places(here)[:3]]
# [('name', 'c'), ('fault', 2), ('fault', 0), [('_', '*'), ('_', '*', '_'), ('_', '+')]]
'''

COMING = r'''
from keptreadings.coming import first_dead, is_start, may_come
from keptreadings.editions import Edition
from keptreadings.reading import read
sums, times = (("_", "+", "_"), 4, (4, 5)), (("_", "*", "_"), 6, (6, 7))
here = Edition([sums, times, (("let", "_", "in", "_"), 3, (0, 0)), (("not", "_"), 8, (8,))], ["let"])
[may_come(here, ["a", "+"]), may_come(here, ["a"]), may_come(here, ["let", "a"]), may_come(here, ["(", "a"])]
# [(['not'], True, False, False), (['*', '+'], False, False, True), (['*', '+', 'in'], False, False, False), (['*', '+'], False, True, False)]
[may_come(here, ["not"]), may_come(here, ["a", "b"]), first_dead(here, ["a", "b"])]
# [(['*', '+', 'not'], True, False, True), None, 1]
low = Edition([times, (("w", "_"), 1, (0,))], [])
[read(low, ["a", "*", "w", "x"]), first_dead(low, ["a", "*", "w", "x"]), may_come(low, ["a", "*"]), is_start(low, ["a", "*", "w"])]
# [('fault', 2), 3, ([], True, False, False), True]
none = Edition([(("if", "_", "then", "_"), 1, (5, 1)), (("then", "_"), 3, (0,)), (("w", "_"), 0, (0,))], [])
[may_come(none, ["if", "w"]), first_dead(none, ["if", "w", ","]), read(none, ["if", "w", ","])]
# [None, 1, ('fault', 2)]
'''

TREES = r'''
from keptreadings.editions import Edition
from keptreadings.trees import bare_text, first_parted, forms_in, is_tree, part_at, paths, put_at, words_in, yield_parts
plus, times = ("_", "+", "_"), ("_", "*", "_")
a, b, c = ("name", "a"), ("name", "b"), ("number", "7")
right, left = (plus, [a, (times, [b, c])]), (times, [(plus, [a, b]), c])
sums = Edition([(plus, 4, (4, 5))], [])
[is_tree(sums, (plus, [a, b])), is_tree(sums, right), is_tree(sums, (plus, [a])), paths(right), part_at(right, (1, 0))]
# [True, False, False, [(), (0,), (1,), (1, 0), (1, 1)], ('name', 'b')]
[bare_text(right), bare_text(right) == bare_text(left), put_at(right, (1,), c), words_in(right), forms_in(left)]
# [['a', '+', 'b', '*', '7'], True, (('_', '+', '_'), [('name', 'a'), ('number', '7')]), ['a', 'b'], [('_', '*', '_'), ('_', '+', '_')]]
[yield_parts(right), yield_parts(left)[3], first_parted(right, left), first_parted(right, right), first_parted(a, (plus, [a, b]))]
# [[(0, ()), (0, ('_', '+')), (2, ()), (2, ('_', '*')), (4, ())], (0, ('_', '*')), 3, None, 1]
'''

STACKS = r'''
from keptreadings.editions import Edition
from keptreadings.stacks import ending_size, frames, is_ending, is_leading, is_stack, leading_size, next_frames
short, full = (("if", "_", "then", "_"), 1, (0, 1)), (("if", "_", "then", "_", "else", "_"), 1, (0, 1, 1))
sure = Edition([short, full, (("or", "_", "else", "_"), 1, (1, 1)), (("_", "+", "_"), 5, (5, 6))], [])
first, then, plus = ("form", ("or", "_")), ("form", ("if", "_", "then", "_")), ("form", ("_", "+", "_"))
[len(frames(sure)), frames(sure)[:3], next_frames(sure, plus), len(next_frames(sure, then)), is_stack(sure, [then, plus]), is_stack(sure, [plus, then])]
# [7, [('bracket',), ('form', ('_', '+', '_')), ('form', ('if', '_'))], [('bracket',)], 7, True, False]
[leading_size(sure, [then, plus]), is_leading(sure, [then, plus], ["if", "x", "then", "x", "+"]), is_leading(sure, [then], ["if", "if", "then"])]
# [5, True, True]
[ending_size(sure, [then, then]), ending_size(sure, [first]), ending_size(sure, [first, then]), is_ending(sure, [first, then], ["x", "else", "x", "else", "x"])]
# [1, 3, 5, True]
'''


def checked(case, block):
    """Run a block; hold each expression against the comment behind it. How many there are."""
    block = block.lstrip("\n")
    lines = block.split("\n")
    known = {}
    many = 0
    for node in ast.parse(block).body:
        code = ast.get_source_segment(block, node)
        if not isinstance(node, ast.Expr):
            exec(code, known)
            continue
        told = lines[node.end_lineno]
        case.assertEqual(told[:2], "# ")
        # Of two equal dictionaries the items stand in one order, and True is not 1: so by repr.
        case.assertEqual(repr(eval(code, known)), repr(ast.literal_eval(told[2:])), code)
        many += 1
    return many


class ExamplesTest(unittest.TestCase):

    def test_section_3(self):
        self.assertEqual(checked(self, TOKENS), 2)

    def test_section_4(self):
        self.assertEqual(checked(self, EDITIONS), 5)

    def test_section_5(self):
        self.assertEqual(checked(self, READING), 3)

    def test_section_6(self):
        self.assertEqual(checked(self, COMING), 4)

    def test_section_7(self):
        self.assertEqual(checked(self, TREES), 3)

    def test_section_8(self):
        self.assertEqual(checked(self, STACKS), 3)
