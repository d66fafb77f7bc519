"""The blocks of examples of the document, as they stand."""

import ast
import pathlib
import unittest

TOKENS = r'''
from keptreadings.tokens import cut, is_token, kind, line_of, tight_line, unmarked
[cut("if a1 then -'x*(3 )"), tight_line(["a", "b", "3", "x", "'y", "z", "-", "-"])]
# [['if', 'a', '1', 'then', '-', "'x", '*', '(', '3', ')'], "a b3x'y z--"]
[kind("'if"), kind("{"), is_token("00"), unmarked(cut("(a + 'if) * 2")), line_of(cut("a+b"))]
# ['quoted', 'sign', False, ['a', '+', 'if', '*', '2'], 'a + b']
'''

EDITIONS = r'''
from keptreadings.editions import Edition, changed_by, first_clash, numbers, told_changes
plus, short = (("_", "+", "_"), 5, (5, 6)), (("if", "_", "then", "_"), 2, (0, 3))
long = (("if", "_", "then", "_", "else", "_"), 2, (0, 3, 2))
first_clash([plus, short, long[:2] + ((0, 4, 2),)], ["if"])
# ('level', ('hole', ('if', '_', 'then', '_')))
first_clash([plus, (("+", "then"), 9, ()), (("nil",), 9, ()), short], ["it"])
# ('hard', 'it')
small = Edition([short, plus], [])
numbers(small)
# {('head', 'if'): 2, ('hole', ('_', '+', '_')): 6, ('hole', ('if', '_')): 0, ('hole', ('if', '_', 'then', '_')): 3, ('left', '+'): 5, ('tail', '+'): 5}
grown = changed_by(small, [("put", long), ("level", ("tail", "+"), 1), ("hard", "if")])
[grown.forms()[0], grown.hard(), len(told_changes(small, grown))]
# [(('_', '+', '_'), 1, (5, 6)), ['if'], 3]
loose = (("_", "+", "_"), 0, (0, 0))
told_changes(grown, Edition([loose, short, long], ["if"])) == [("out", loose[0]), ("put", loose)]
# True
'''

READING = r'''
from keptreadings.editions import Edition
from keptreadings.reading import goes_on, places, read, standing, taken
sums, times = (("_", "+", "_"), 4, (4, 5)), (("_", "*", "_"), 6, (6, 7))
here = Edition([sums, times, (("let", "_", "in", "_"), 3, (0, 0)), (("not", "_"), 8, (8,))], ["let"])
[read(here, ["a", "+", "b", "*", "c"]), read(here, ["a", "*", "let", "x"]), read(here, ["not", "+", "b"])]
# [('read', (('_', '+', '_'), [('name', 'a'), (('_', '*', '_'), [('name', 'b'), ('name', 'c')])])), ('fault', 2), ('read', (('_', '+', '_'), [('name', 'not'), ('name', 'b')]))]
[taken(here, ["not", "x"]), goes_on(here, ("let",)), goes_on(here, ("let", "_")), standing(here, ["a", "+", "b"], 2), standing(here, ["a", "+", "b"], 3)]
# [[('form', ('not',)), ('name',)], (False, 0, []), (False, None, ['in']), ([('form', ('_', '+', '_'))], ('wanted',)), ([('form', ('_', '+', '_'))], ('had', 10, None))]
[read(here, ["a", "+", "b", "+", "c"])[1][1][1], read(here, ["(", "a"]), read(here, []), places(here)[:3]]
# [('name', 'c'), ('fault', 2), ('fault', 0), [('_', '*'), ('_', '*', '_'), ('_', '+')]]
'''

COMING = r'''
from keptreadings.coming import first_dead, is_start, may_come
from keptreadings.editions import Edition
from keptreadings.reading import read
sums, times = (("_", "+", "_"), 4, (4, 5)), (("_", "*", "_"), 6, (6, 7))
here = Edition([sums, times, (("let", "_", "in", "_"), 3, (0, 0)), (("not", "_"), 8, (8,))], ["let"])
[may_come(here, ["a", "+"]), may_come(here, ["a"]), may_come(here, ["let", "a"]), may_come(here, ["(", "a"])]
# [(['not'], True, False, False), (['*', '+'], False, False, True), (['*', '+', 'in'], False, False, False), (['*', '+'], False, True, False)]
[may_come(here, ["not"]), may_come(here, ["a", "b"]), first_dead(here, ["a", "b"])]
# [(['*', '+', 'not'], True, False, True), None, 1]
low = Edition([times, (("w", "_"), 1, (0,))], [])
[read(low, ["a", "*", "w", "x"]), first_dead(low, ["a", "*", "w", "x"]), may_come(low, ["a", "*"]), is_start(low, ["a", "*", "w"])]
# [('fault', 2), 3, ([], True, False, False), True]
none = Edition([(("if", "_", "then", "_"), 1, (5, 1)), (("then", "_"), 3, (0,)), (("w", "_"), 0, (0,))], [])
[may_come(none, ["if", "w"]), first_dead(none, ["if", "w", ","]), read(none, ["if", "w", ","])]
# [None, 1, ('fault', 2)]
'''

TREES = r'''
from keptreadings.editions import Edition
from keptreadings.trees import bare_text, first_parted, forms_in, is_tree, part_at, paths, put_at, words_in, yield_parts
plus, times = ("_", "+", "_"), ("_", "*", "_")
a, b, c = ("name", "a"), ("name", "b"), ("number", "7")
right, left = (plus, [a, (times, [b, c])]), (times, [(plus, [a, b]), c])
sums = Edition([(plus, 4, (4, 5))], [])
[is_tree(sums, (plus, [a, b])), is_tree(sums, right), is_tree(sums, (plus, [a])), paths(right), part_at(right, (1, 0))]
# [True, False, False, [(), (0,), (1,), (1, 0), (1, 1)], ('name', 'b')]
[bare_text(right), bare_text(right) == bare_text(left), put_at(right, (1,), c), words_in(right), forms_in(left)]
# [['a', '+', 'b', '*', '7'], True, (('_', '+', '_'), [('name', 'a'), ('number', '7')]), ['a', 'b'], [('_', '*', '_'), ('_', '+', '_')]]
[yield_parts(right), yield_parts(left)[3], first_parted(right, left), first_parted(right, right), first_parted(a, (plus, [a, b]))]
# [[(0, ()), (0, ('_', '+')), (2, ()), (2, ('_', '*')), (4, ())], (0, ('_', '*')), 3, None, 1]
'''

STACKS = r'''
from keptreadings.editions import Edition
from keptreadings.stacks import ending_size, frames, is_ending, is_leading, is_stack, leading_size, next_frames
short, full = (("if", "_", "then", "_"), 1, (0, 1)), (("if", "_", "then", "_", "else", "_"), 1, (0, 1, 1))
sure = Edition([short, full, (("or", "_", "else", "_"), 1, (1, 1)), (("_", "+", "_"), 5, (5, 6))], [])
first, then, plus = ("form", ("or", "_")), ("form", ("if", "_", "then", "_")), ("form", ("_", "+", "_"))
[len(frames(sure)), frames(sure)[:3], next_frames(sure, plus), len(next_frames(sure, then)), is_stack(sure, [then, plus]), is_stack(sure, [plus, then])]
# [7, [('bracket',), ('form', ('_', '+', '_')), ('form', ('if', '_'))], [('bracket',)], 7, True, False]
[leading_size(sure, [then, plus]), is_leading(sure, [then, plus], ["if", "x", "then", "x", "+"]), is_leading(sure, [then], ["if", "if", "then"])]
# [5, True, True]
[ending_size(sure, [then, then]), ending_size(sure, [first]), ending_size(sure, [first, then]), is_ending(sure, [first, then], ["x", "else", "x", "else", "x"])]
# [1, 3, 5, True]
'''

KEPT = r'''
from keptreadings.editions import Edition
from keptreadings.kept import deed, first_deed, is_kept_table, is_kept_text, kept, kept_along, kept_table, shared_frames
plus, minus, no = (("_", "+", "_"), 5, (5, 6)), (("_", "-", "_"), 5, (5, 6)), (("not", "_"), 3, (3,))
elder, newer = Edition([plus], []), Edition([plus, no], [])
spots, ahead = [("bottom",), ("bracket",), ("form", ("_", "+", "_"))], ["+", ")", ""]
rows = [("wanted", spot) for spot in spots] + [("had", None, spot, token) for spot in spots for token in ahead]
rows = rows + [("had", ("_", "+", "_"), spot, token) for spot in spots[:2] for token in ahead]
[kept(elder, newer), shared_frames(elder, newer) == spots[1:], is_kept_table(elder, newer, rows), is_kept_table(elder, newer, rows[1:]), kept_along([elder, newer, Edition([plus, no, minus], [])])]
# [True, True, True, False, True]
before, behind = Edition([minus], []), Edition([minus, (("-", "_"), 7, (7,)), (("w", "_"), 3, (3,))], [])
[kept(before, behind), kept_table(before, behind), is_kept_text(before, behind, ["w", "-", "x"]), is_kept_text(before, behind, ["x", "-", "w"])]
# [False, None, False, True]
[deed(before, None, ("form", ("_", "-", "_")), "-"), deed(before, ("_", "-", "_"), ("bottom",), "-"), deed(before, None, ("bottom",), "")]
# [('end',), ('tail', ('_', '-')), ('take', ())]
[first_deed(before, ("bottom",), "w", "-"), first_deed(behind, ("bottom",), "w", "-"), first_deed(behind, ("form", ("_", "-", "_")), "w", "x")]
# [('name',), ('head', ('w',)), ('fault',)]
'''

SHORTEST = r'''
from keptreadings.editions import Edition
from keptreadings.shortest import is_parting_text, is_unlike_text, parting_names, parting_size, parting_text
plus, times, late = (("_", "+", "_"), 4, (4, 5)), (("_", "*", "_"), 6, (6, 7)), (("_", "*", "_"), 3, (3, 4))
elder, newer = Edition([plus, times], []), Edition([plus, late], [])
[parting_size(elder, newer), parting_text(elder, elder), is_parting_text(elder, newer, ["x", "*", "y", "+", "z"]), is_parting_text(elder, newer, ["(", "x", "*", "y", ")", "+", "z"])]
# [5, None, True, False]
minus, less, wide = (("_", "-", "_"), 4, (4, 5)), (("-", "_"), 8, (8,)), (("w", "_"), 8, (8,))
plain, soft, hard = Edition([minus, less], []), Edition([minus, less, wide], []), Edition([minus, less, wide], ["w"])
[parting_size(plain, soft), is_parting_text(plain, soft, ["w", "-", "x"]), parting_text(plain, hard), parting_names(plain, hard), parting_names(plain, soft)]
# [3, True, ['w'], ['w'], []]
[is_unlike_text(elder, newer, ["x", "+", "y", "*", "z"]), is_unlike_text(plain, soft, ["w", "x"]), is_unlike_text(plain, soft, ["w", "-", "x"])]
# [True, True, False]
'''

ALIKE = r'''
from keptreadings.alike import are_alike, height, height_chain, is_height_chain, is_two_form_text, normal, reduced_table, two_form_text, unlike_row
from keptreadings.editions import Edition
plus, times, late = (("_", "+", "_"), 4, (4, 5)), (("_", "*", "_"), 6, (6, 7)), (("_", "*", "_"), 3, (3, 4))
elder, newer = Edition([plus, times], []), Edition([plus, late], [])
reduced_table(elder)
# [('left', ('_', '*', '_'), '*'), ('left', ('_', '*', '_'), '+'), ('left', ('_', '+', '_'), '+'), ('on', ('_', '+', '_'), ('tail', '*'))]
low = normal(elder)
[low.forms(), are_alike(elder, low), height(elder), unlike_row(elder, low), two_form_text(elder, low)]
# [[(('_', '*', '_'), 1, (0, 2)), (('_', '+', '_'), 0, (0, 1))], True, 2, None, None]
[are_alike(elder, newer), unlike_row(elder, newer), is_two_form_text(elder, newer, ["x", "+", "y", "*", "z"]), is_two_form_text(elder, newer, ["x", "+", "y"])]
# [False, ('left', ('_', '*', '_'), '+'), True, False]
chain = [("tail", "+"), ("hole", ("_", "+", "_")), ("tail", "*"), ("hole", ("_", "*", "_"))]
[is_height_chain(elder, chain), is_height_chain(elder, chain[:3]), is_height_chain(elder, chain[::-1])]
# [True, False, False]
'''

ROOMS = r'''
from keptreadings.editions import Edition
from keptreadings.rooms import are_room_ends, broken_rows, greatest_keeping, is_looser, is_used_text, least_keeping, loosest, room, room_ends, used_rows
plus, times, hole = (("_", "+", "_"), 5, (5, 6)), (("_", "*", "_"), 7, (7, 8)), ("_", "+", "_")
one, both, right = Edition([plus], []), Edition([plus, times], []), ("hole", hole)
[used_rows(one), is_used_text(one, ("left", hole, "+"), ["x", "+", "y", "+", "z"]), broken_rows(one, Edition([(hole, 5, (6, 6))], []))]
# [[('left', ('_', '+', '_'), '+'), ('off', ('_', '+', '_'), ('tail', '+'))], True, [('left', ('_', '+', '_'), '+')]]
[room(both, right), room(both, ("tail", "+")), room(both, ("left", "*")), room(both, ("hole", ("_", "*", "_")))]
# [(6, 7), (5, 5), (0, 7), (8, 9)]
[[len(text) for text in room_ends(both, right)], are_room_ends(both, right, (["x", "+", "x", "+", "x"], ["y", "+", "x", "*", "x"]))]
# [[5, 5], True]
[least_keeping(one).forms(), greatest_keeping(one).forms(), is_looser(both, loosest(both)), is_looser(loosest(both), both)]
# [[(('_', '+', '_'), 0, (0, 1))], [(('_', '+', '_'), 8, (8, 9))], True, False]
'''

ADDING = r'''
from keptreadings.adding import added, harmful, is_shown, lost_reasons, reasons, softened, stand_apart
from keptreadings.editions import Edition
minus, neg, nay = (("_", "-", "_"), 5, (5, 6)), (("-", "_"), 6, (6,)), (("not", "_"), 4, (4,))
tail, both, heads = Edition([minus], []), Edition([minus, neg], []), Edition([minus, nay], [])
[reasons(tail, neg, []), reasons(tail, nay, []), reasons(both, nay, []), reasons(heads, neg, []), reasons(tail, nay, ["not"])]
# [[], [], [('meant', 'not', '-')], [('begins', 'not', '-')], [('hard', 'not')]]
[harmful(tail, [neg, nay], []), stand_apart(tail, [neg, nay], []), is_shown(both, nay, [], ("meant", "not", "-"), ["not", "-", "x"])]
# [[], False, True]
ahead, cast = Edition([nay], []), (("_", "as", "_"), 3, (3, 4))
[reasons(ahead, cast, []), is_shown(ahead, cast, [], ("names", "not", "as"), ["not", "as"]), added(ahead, [cast], []) == Edition([cast, nay], [])]
# [[('names', 'not', 'as')], True, True]
stray = Edition([(("a", "_"), 5, (0,)), (("f", "_", "b", "_"), 5, (0, 0))], ["a"])
[reasons(stray, (("a", "_", "b"), 5, (0,)), []), softened(stray, "a"), harmful(stray, [(("a", "_", "c"), 5, (0,))], [])]
# [[('behind', ('a', '_'), 'b')], ['a', 'b'], [0]]
lost_reasons(Edition([nay, (("w", "_"), 5, (5,)), (("_", "by", "_", "w"), 3, (3, 0))], []), [("w", "_")])
# [('names', 'not', 'w')]
'''

BLAME = r'''
from keptreadings.blame import are_blame_texts, breaking_lots, broken_without, kept_lots, lot_edition, needed_forms
from keptreadings.editions import Edition
less, minus, word = (("_", "-", "_"), 5, (5, 6)), (("-", "_"), 8, (8,)), (("w", "_"), 3, (3,))
plain, puts = Edition([less], []), [("put", minus), ("put", word)]
[breaking_lots(plain, puts), kept_lots(plain, puts), are_blame_texts(plain, puts, [["w", "-", "x"]])]
# [[[0, 1]], [[0], [1]], True]
both = lot_edition(plain, puts, [0, 1])
[needed_forms(plain, both), broken_without(plain, both, ("_", "-", "_")), needed_forms(plain, lot_edition(plain, puts, [0]))]
# [[('_', '-', '_')], None, None]
plus, call = (("_", "+", "_"), 5, (5, 9)), (("f", "_"), 9, (6,))
moves = [("level", ("tail", "+"), 6), ("level", ("hole", ("f", "_")), 7)]
[breaking_lots(Edition([plus, call], []), moves), kept_lots(Edition([plus, call], []), moves), are_blame_texts(Edition([plus, call], []), moves, [["f", "x", "+", "x"]])]
# [[[0]], [[0, 1]], True]
needed_forms(Edition([plus, call], []), lot_edition(Edition([plus, call], []), moves, [0]))
# [('_', '+', '_'), ('f', '_')]
'''

MARKS = r'''
from keptreadings.editions import Edition
from keptreadings.marks import are_apart, are_least_marks, fewest_marks, kinds, least_marks, marked, need_ways, reads_to, unmet
plus, by, fn = ("_", "+", "_"), ("_", "*", "_"), ("fn", "_")
here = Edition([(plus, 4, (4, 5)), (by, 6, (6, 7)), (fn, 9, (0,))], ["fn"])
a, b, c, d = [("name", word) for word in "abcd"]
one = (by, [(plus, [a, b]), c])
[need_ways(here, one), reads_to(here, one, []), least_marks(here, one), marked(one, [(0,)])]
# [[((0,), (0,))], False, [(0,)], ['(', 'a', '+', 'b', ')', '*', 'c']]
two = (plus, [(by, [c, (plus, [a, (fn, [b])])]), d])
[need_ways(here, two), fewest_marks(here, two), unmet(here, two, [(0,)]), are_least_marks(here, two, [(0, 1)]), kinds(here, two, ((0,), (0, 1, 1)))]
# [[((0,), (0, 1, 1)), ((0, 1), (0, 1))], 1, ((0, 1), (0, 1)), True, ['caught']]
less = Edition([(("-", "_"), 8, (8,)), (("_", "-", "_"), 4, (4, 5)), (("not", "_"), 8, (8,))], [])
word = (("_", "-", "_"), [("name", "not"), a])
[need_ways(less, word), kinds(less, word, ((0,), (0,))), marked(word, [(0,)]), are_apart(less, word, [((0,), (0,))])]
# [[((0,), (0,))], ['word'], ["'not", '-', 'a'], True]
'''

LEADING = r'''
from keptreadings.editions import Edition
from keptreadings.leading import apart_for_all, are_for_all, idle_pairs, idle_number, led_over, led_price, marks_in, needed_for_all, one_for_all
plus, times = ("_", "+", "_"), ("_", "*", "_")
elder, newer = Edition([(plus, 4, (4, 5)), (times, 6, (6, 7))], []), Edition([(plus, 4, (4, 5)), (times, 4, (4, 5))], [])
a, b, c = ("name", "a"), ("name", "b"), ("name", "c")
right, left = (plus, [a, (times, [b, c])]), (times, [(plus, [a, b]), c])
[needed_for_all([elder], right), one_for_all([elder, newer], right), one_for_all([newer], left), needed_for_all([elder, newer], left)]
# [0, [(1,)], [], 1]
[are_for_all([elder, newer], left, [(0,)]), are_for_all([elder, newer], left, [(), (0,)]), apart_for_all([elder, newer], right)]
# [True, False, [((1,), (1,))]]
text = ["a", "+", "b", "*", "c"]
[led_price(elder, newer, text), led_over(elder, newer, text), led_price(newer, elder, text)]
# [1, ['a', '+', '(', 'b', '*', 'c', ')'], 1]
full = ["(", "a", "+", "(", "b", "*", "c", ")", ")"]
[marks_in(newer, full), idle_number(elder, full), idle_pairs(elder, full), idle_pairs(newer, full), led_price(elder, newer, full)]
# [((('_', '+', '_'), [('name', 'a'), (('_', '*', '_'), [('name', 'b'), ('name', 'c')])]), {(): 1, (1,): 1}, []), 2, [0, 3], [0], 0]
'''

WAYS = r'''
from keptreadings.editions import Edition
from keptreadings.ways import all_but, are_held, is_bare_parting, is_unheld_way, unheld
plus, strong, weak = (("_", "+", "_"), 6, (6, 7)), (("_", "*", "_"), 7, (7, 8)), (("_", "*", "_"), 5, (5, 6))
early, late = Edition([plus, strong], []), Edition([plus, weak], [])
sums = (("_", "+", "_"), [("name", "a"), (("_", "*", "_"), [("name", "b"), ("name", "c")])])
[are_held(early, early), are_held(early, late), unheld(early, late, sums)]
# [True, False, [((1,), (1,))]]
all_but(early, sums, ((1,), (1,)))
# ['(', "'a", '+', "'b", '*', "'c", ')']
[is_unheld_way(early, late, (sums, ((1,), (1,)))), is_bare_parting(early, late, ["x", "+", "x", "*", "x"])]
# [True, True]
'''

EXCHANGE = r'''
from keptreadings.editions import Edition
from keptreadings.exchange import are_class_texts, are_exchangeable, failed_looks, fits, looks, many_classes, parting_surroundings, passes
edition = Edition([(("_", "+", "_"), 5, (5, 9)), (("f", "_"), 9, (6,))], [])
name, call, sum_of = ["x"], ["f", "x"], ["x", "+", "x"]
[fits(edition, call, (["f"], ["+", "y"])), fits(edition, sum_of, (["f"], [])), fits(edition, sum_of, ([], ["+", "y"]))]
# [True, False, True]
looks(edition)[:4]
# [((), '', False), ((), '+', True), (('(',), ')', False), (('(',), '+', True)]
[len(looks(edition)), passes(edition, sum_of, (("f", "_"), "", False)), failed_looks(edition, sum_of) == looks(edition)[4:], failed_looks(edition, call)]
# [10, False, True, []]
[are_exchangeable(edition, name, call), parting_surroundings(edition, name, sum_of), many_classes(edition), are_class_texts(edition, [sum_of, call])]
# [True, (['f'], []), 2, True]
'''

WORKSHOP = r'''
from keptreadings.editions import Edition
from keptreadings.workshop import Workshop, edited, met
plus, times = (("_", "+", "_"), 5, (5, 6)), (("_", "*", "_"), 6, (6, 7))
plain, text = Edition([plus, times], []), ["a", "+", "b", "*", "c"]
[edited(text, (0, 2, ["d", "*"])), met(plain, text, (0, 1, ["x", "*", "y"])), met(plain, text, (0, 0, ["("]))]
# [['d', '*', 'b', '*', 'c'], 1, None]
shop = Workshop(plain)
[shop.enter(text), shop.change_kept([("level", ("left", "*"), 4)]), shop.parted()]
# [0, None, []]
[shop.change([("level", ("tail", "*"), 4)]), shop.parted(), shop.due(0) == shop.reading(0)[1], shop.lead(0), shop.text(0)]
# [None, [0], False, None, ['a', '+', '(', 'b', '*', 'c', ')']]
[shop.parted(), shop.due(0) == shop.reading(0)[1], shop.undo(), shop.undo(), shop.parted(), len(shop.log())]
# [[], True, None, None, [], 2]
'''

SCRIPTS = r'''
from keptreadings.editions import Edition
from keptreadings.scripts import end_of, play, read_script, script_text, trimmed
from keptreadings.workshop import Workshop
mild = Edition([(("_", "+", "_"), 5, (5, 6)), (("_", "*", "_"), 6, (6, 7))], [])
day = [("enter", ["a", "+", "b", "*", "c"]), ("change", [("level", ("tail", "*"), 4)]), ("parted",), ("lead", 0), ("parted",), ("close", 5)]
play(Workshop(mild), day)
# [('entered', 0), ('done',), ('parted', [0]), ('done',), ('parted', []), ('refused', 'InvalidSpot')]
[read_script(script_text(day)) == day, end_of(mild, day)[1], trimmed(mild, [("enter", ["a"]), ("parted",), ("undo",), ("redo",)])]
# [True, {0: ['a', '+', '(', 'b', '*', 'c', ')']}, [('enter', ['a']), ('redo',)]]
'''

PAPERS = r'''
from keptreadings.editions import Edition
from keptreadings.papers import change_text, edition_text, read_change, table_text, tree_text
plus, short = (("_", "+", "_"), 5, (5, 6)), (("if", "_", "then", "_"), 2, (0, 3))
[edition_text(Edition([short, plus], ["if"])), tree_text((("_", "+", "_"), [("name", "x"), ("number", "3")]))]
# ['5 _5 + _6\n2 if _0 then _3\nhard if', "_ + _\n  'x\n  3"]
[change_text(("level", ("hole", ("if", "_", "then", "_")), 4)), read_change("put 9 [ _0 ]")]
# ['level hole if _ then _ 4', ('put', (('[', '_', ']'), 9, (0,)))]
table_text([("wanted", ("bottom",)), ("had", None, ("form", ("if", "_")), "then"), ("elder", ("_", "+", "_"), ("bracket",), "")])
# 'wanted  bottom\nhad  --  form if _  then\nelder  _ + _  bracket  --'
'''

AGREEING = r'''
from keptreadings.agreeing import greatest_agreeing, is_agreeing, is_quarrel, least_agreeing, quarrel, quarrelling
from keptreadings.editions import Edition
plus, times, less, power = ("_", "+", "_"), ("_", "*", "_"), ("_", "-", "_"), ("_", "^", "_")
first = Edition([(plus, 5, (9, 9)), (times, 4, (9, 5)), (less, 4, (9, 9)), (power, 4, (9, 9))], [])
second = Edition([(plus, 3, (9, 9)), (times, 4, (9, 9)), (less, 3, (9, 9)), (power, 3, (4, 9))], [])
third = Edition([(plus, 4, (4, 9)), (times, 3, (9, 9)), (less, 4, (9, 5)), (power, 5, (9, 9))], [])
least_agreeing([first, second]).forms()
# [(('_', '*', '_'), 0, (0, 1)), (('_', '+', '_'), 1, (0, 0)), (('_', '-', '_'), 0, (0, 0)), (('_', '^', '_'), 0, (0, 0))]
[least_agreeing([first, second, third]), quarrelling([first, second, third]), quarrel([second, third]), is_agreeing([first], second)]
# [None, [[0, 1, 2]], None, False]
ring = [(0, ("on", times, ("tail", "+"))), (2, ("off", less, ("tail", "+"))), (2, ("on", less, ("tail", "^"))), (1, ("off", times, ("tail", "^")))]
[is_quarrel([first, second, third], ring), is_quarrel([first, second, third], ring[1:] + ring[:1]), is_quarrel([first, second, third], ring[1:])]
# [True, True, False]
one = Edition([(plus, 5, (5, 6))], [])
[greatest_agreeing([one]).forms(), is_agreeing([one, one], Edition([(plus, 2, (1, 3))], []))]
# [[(('_', '+', '_'), 8, (8, 9))], True]
'''


def checked(case, block):
    """Run a block; hold each expression against the comment behind it. How many there are."""
    block = block.lstrip("\n")
    lines = block.split("\n")
    known = {}
    many = 0
    for node in ast.parse(block).body:
        code = ast.get_source_segment(block, node)
        if not isinstance(node, ast.Expr):
            exec(code, known)
            continue
        told = lines[node.end_lineno]
        case.assertEqual(told[:2], "# ")
        # Of two equal dictionaries the items stand in one order, and True is not 1: so by repr.
        case.assertEqual(repr(eval(code, known)), repr(ast.literal_eval(told[2:])), code)
        many += 1
    return many


class ExamplesTest(unittest.TestCase):

    def test_section_3(self):
        self.assertEqual(checked(self, TOKENS), 2)

    def test_section_4(self):
        self.assertEqual(checked(self, EDITIONS), 5)

    def test_section_5(self):
        self.assertEqual(checked(self, READING), 3)

    def test_section_6(self):
        self.assertEqual(checked(self, COMING), 4)

    def test_section_7(self):
        self.assertEqual(checked(self, TREES), 3)

    def test_section_8(self):
        self.assertEqual(checked(self, STACKS), 3)

    def test_section_9(self):
        self.assertEqual(checked(self, KEPT), 4)

    def test_section_10(self):
        self.assertEqual(checked(self, SHORTEST), 3)

    def test_section_11(self):
        self.assertEqual(checked(self, ALIKE), 4)

    def test_section_12(self):
        self.assertEqual(checked(self, ROOMS), 4)

    def test_section_13(self):
        self.assertEqual(checked(self, ADDING), 5)

    def test_section_14(self):
        self.assertEqual(checked(self, BLAME), 4)

    def test_section_15(self):
        self.assertEqual(checked(self, MARKS), 3)

    def test_section_16(self):
        self.assertEqual(checked(self, LEADING), 4)

    def test_section_17(self):
        self.assertEqual(checked(self, WAYS), 3)

    def test_section_18(self):
        self.assertEqual(checked(self, EXCHANGE), 4)

    def test_section_19(self):
        self.assertEqual(checked(self, WORKSHOP), 4)

    def test_section_20(self):
        self.assertEqual(checked(self, SCRIPTS), 2)

    def test_section_21(self):
        self.assertEqual(checked(self, PAPERS), 3)

    def test_section_22(self):
        self.assertEqual(checked(self, AGREEING), 4)

    def test_all_blocks_as_they_stand(self):
        # Where the document is at hand, these are its blocks, all of them.
        told = pathlib.Path(__file__).resolve().parents[2] / "shared" / "DOC.md"
        if told.exists():
            parts = told.read_text(encoding="ascii").split("```\n")
            here = [TOKENS, EDITIONS, READING, COMING, TREES, STACKS, KEPT, SHORTEST, ALIKE, ROOMS, ADDING, BLAME, MARKS,
                    LEADING, WAYS, EXCHANGE, WORKSHOP, SCRIPTS, PAPERS, AGREEING]
            self.assertEqual(parts[1::2], [block[1:] for block in here])
