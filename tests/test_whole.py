"""The interface as the document lists it, and what the points promise together."""

import ast
import importlib
import inspect
import pathlib
import random
import re
import unittest

from keptreadings.agreeing import greatest_agreeing, is_agreeing, least_agreeing
from keptreadings.alike import are_alike, have_one_stock
from keptreadings.blame import needed_forms
from keptreadings.editions import told_changes
from keptreadings.errors import TongueError
from keptreadings.exchange import class_texts, fits, looks, passes, surroundings_of
from keptreadings.kept import kept, kept_along, kept_table
from keptreadings.leading import idle_number, led_over, led_price, needed_for_all, one_for_all
from keptreadings.marks import fewest_marks, least_marks, marked
from keptreadings.papers import change_text, edition_text, read_change, read_edition, read_tree, tree_text
from keptreadings.reading import read
from keptreadings.rooms import broken_rows
from keptreadings.scripts import end_of, play, read_script, script_text
from keptreadings.shortest import parting_text
from keptreadings.trees import paths
from keptreadings.ways import are_held, bare_parting, unheld_way
from keptreadings.workshop import Workshop, replayed
from tests import naive
from tests.pairs import random_pairs, some_change, with_other_levels
from tests.samples import random_editions
from tests.test_marks import random_trees
from tests.test_scripts import some_script
from tests.test_workshop import some_text, told

INTERFACE = {
    "errors": (
        "TongueError, InvalidToken, InvalidText, InvalidForm, InvalidForms, InvalidWords, Unsound, InvalidEdition, "
        "InvalidEditions, InvalidChange, InvalidChanges, InvalidPattern, Fault, InvalidKey, InvalidTree, UnknownForm, "
        "InvalidPath, InvalidSpot, InvalidMarks, InvalidWay, InvalidTable, InvalidWorkshop, InvalidLog, InvalidScript, "
        "InvalidCount, Refused, InvalidEdit, UnknownPlace, InvalidReason, InvalidStack, InvalidRow, InvalidLot, "
        "InvalidSurroundings, InvalidLook, NothingToUndo, NothingToRedo"
    ),
    "tokens": (
        "is_token(value), kind(token), cut(line), line_of(text), tight_line(text), unmarked(text), free_words(editions, many)"
    ),
    "editions": (
        "is_form(value), first_clash(forms, hard), Edition(forms, hard) with forms(), hard(), ==, numbers(edition), "
        "changed(edition, change), changed_by(edition, changes), told_changes(elder, newer), are_changes(elder, newer, value)"
    ),
    "reading": (
        "places(edition), goes_on(edition, place), read(edition, text), taken(edition, text), standing(edition, text, at)"
    ),
    "coming": (
        "is_start(edition, tokens), first_dead(edition, tokens), may_come(edition, tokens)"
    ),
    "trees": (
        "is_tree(edition, value), paths(tree), part_at(tree, path), put_at(tree, path, other), forms_in(tree), words_in(tree), "
        "bare_text(tree), yield_parts(tree), first_parted(one, other)"
    ),
    "stacks": (
        "frames(edition), next_frames(edition, frame), is_stack(edition, value), leading(edition, stack), leading_size(edition, "
        "stack), is_leading(edition, stack, value), ending(edition, stack), ending_size(edition, stack), is_ending(edition, "
        "stack, value)"
    ),
    "kept": (
        "is_kept_text(elder, newer, text), kept(elder, newer), shared_frames(elder, newer), deed(edition, value, frame, token), "
        "first_deed(edition, frame, token, after), kept_table(elder, newer), is_kept_table(elder, newer, value), "
        "kept_along(editions)"
    ),
    "shortest": (
        "parting_text(elder, newer), parting_size(elder, newer), is_parting_text(elder, newer, value), unlike_text(one, other), "
        "is_unlike_text(one, other, value), parting_names(elder, newer)"
    ),
    "alike": (
        "reduced_table(edition), are_alike(one, other), unlike_row(one, other), two_form_text(one, other), "
        "is_two_form_text(one, other, value), normal(edition), height(edition), height_chain(edition), is_height_chain(edition, "
        "value)"
    ),
    "rooms": (
        "used_rows(edition), used_text(edition, row), is_used_text(edition, row, value), room(edition, key), rooms(edition), "
        "room_ends(edition, key), are_room_ends(edition, key, value), is_looser(elder, newer), loosest(edition), "
        "least_keeping(edition), greatest_keeping(edition), broken_rows(elder, newer)"
    ),
    "adding": (
        "added(edition, forms, hard), reasons(edition, form, hard), shown(edition, form, hard, reason), is_shown(edition, form, "
        "hard, reason, value), stand_apart(edition, forms, hard), harmful(edition, forms, hard), softened(edition, word), "
        "taken_out(edition, patterns), lost_reasons(edition, patterns)"
    ),
    "blame": (
        "lot_edition(elder, changes, lot), breaking_lots(elder, changes), kept_lots(elder, changes), blame_texts(elder, "
        "changes), are_blame_texts(elder, changes, value), needed_forms(elder, newer), broken_without(elder, newer, pattern), "
        "is_broken_without(elder, newer, pattern, value)"
    ),
    "marks": (
        "marked(tree, marks), reads_to(edition, tree, marks), need_ways(edition, tree), unmet(edition, tree, marks), "
        "fewest_marks(edition, tree), least_marks(edition, tree), are_least_marks(edition, tree, value), apart(edition, tree), "
        "are_apart(edition, tree, value), kinds(edition, tree, way)"
    ),
    "leading": (
        "needed_for_all(editions, tree), one_for_all(editions, tree), are_for_all(editions, tree, value), "
        "apart_for_all(editions, tree), are_apart_for_all(editions, tree, value), marks_in(edition, text), led_price(elder, "
        "newer, text), led_over(elder, newer, text), is_led_over(elder, newer, text, value), idle_number(edition, text), "
        "idle_pairs(edition, text), are_idle_pairs(edition, text, value)"
    ),
    "ways": (
        "unheld(elder, newer, tree), are_held(elder, newer), unheld_way(elder, newer), is_unheld_way(elder, newer, value), "
        "all_but(elder, tree, way), is_bare(elder, newer, text), bare_parting(elder, newer), is_bare_parting(elder, newer, "
        "value)"
    ),
    "exchange": (
        "fits(edition, text, surroundings), looks(edition), surroundings_of(edition, look), are_surroundings_of(edition, look, "
        "value), passes(edition, text, look), failed_looks(edition, text), are_exchangeable(edition, one, other), "
        "parting_surroundings(edition, one, other), are_parting_surroundings(edition, one, other, value), "
        "many_classes(edition), class_texts(edition), are_class_texts(edition, value)"
    ),
    "agreeing": (
        "least_agreeing(editions), greatest_agreeing(editions), is_agreeing(editions, value), quarrel(editions), "
        "is_quarrel(editions, value), quarrelling(editions)"
    ),
    "workshop": (
        "edited(text, edit), met(edition, text, edit), Workshop(edition): edition(), editions(), spots(), enter(text), "
        "close(spot), edit(spot, edit), text(spot), due(spot), reading(spot), parted(), change(changes), change_kept(changes), "
        "lead(spot), log(), undo(), redo(), trial(), attempt(action), copy(); replayed(workshop, log)"
    ),
    "scripts": (
        "play(shop, script), script_text(script), read_script(text), end_of(edition, script), trimmed(edition, script)"
    ),
    "papers": (
        "edition_text(edition), read_edition(text), tree_text(tree), read_tree(text), change_text(change), read_change(text), "
        "table_text(table), read_table(text)"
    ),
}


def parts_of(row):
    """The names of a row of the interface, each with what stands in its brackets, or None."""
    return [(name, told) for name, _, told in re.findall(r"(\w+)(\(([^)]*)\))?", row) if name not in ("with", "and")]


def signature(function):
    names = list(inspect.signature(function).parameters)
    return ", ".join(names[1:] if names[:1] == ["self"] else names)


def shelf(name):
    return importlib.import_module("keptreadings." + name)


class InterfaceTest(unittest.TestCase):

    def test_as_the_document_lists_it(self):
        told = pathlib.Path(__file__).resolve().parents[2] / "shared" / "DOC.md"
        if told.exists():
            rows = re.findall(r"^\| `keptreadings\.(\w+)` \| (.*) \|$", told.read_text(encoding="ascii"), flags=re.M)
            self.assertEqual({name: row.replace("`", "") for name, row in rows}, INTERFACE)

    def test_errors(self):
        module = shelf("errors")
        for name, _ in parts_of(INTERFACE["errors"]):
            self.assertEqual(getattr(module, name).__module__, module.__name__)

    def test_functions_with_their_arguments(self):
        many = 0
        for file, row in INTERFACE.items():
            module, classes = shelf(file), []
            for part in re.split(r"[,;:] ?(?![^(]*\))| with ", row):
                name, brackets, told = re.fullmatch(r"\s*(\w+|==)(\((.*)\))?\s*", part).groups()
                if file == "errors":
                    continue
                if hasattr(module, name) and (name[0].isupper() or not classes or file == "editions" and name in ("numbers", "changed", "changed_by", "told_changes", "are_changes") or name == "replayed"):
                    thing = getattr(module, name)
                    self.assertEqual(thing.__module__, module.__name__, name)
                    self.assertEqual(signature(thing), told, name)
                    if inspect.isclass(thing):
                        classes.append(thing)
                else:
                    # A method is defined in its class itself.
                    method = vars(classes[-1])["__eq__" if name == "==" else name]
                    self.assertEqual(signature(method), "other" if name == "==" else told or "", name)
                many += 1
        self.assertEqual(many, 180)

    def test_defined_where_they_are_listed(self):
        for file in INTERFACE:
            tree = ast.parse(inspect.getsource(shelf(file)))
            defined = {node.name for node in tree.body if isinstance(node, (ast.FunctionDef, ast.ClassDef))}
            listed = set(re.findall(r"\w+(?=\()", re.sub(r"with .*?==|: edition\(\).*?copy\(\)", "", INTERFACE[file])))
            if file == "errors":
                listed = set(re.findall(r"\w+", INTERFACE[file]))
            self.assertLessEqual(listed, defined)


class TogetherTest(unittest.TestCase):

    def test_what_is_kept(self):
        # A table, all ways held, no shortest text, no unheld way, no bare text that parts, no quarrel.
        seen = set()
        for elder, newer in random_pairs(240, 200, 4, 4):
            grown = set(elder.grammar.patterns()) <= set(newer.grammar.patterns())
            is_kept = kept(elder, newer)
            told = [kept_table(elder, newer) is not None, parting_text(elder, newer) is None, needed_forms(elder, newer) is None, kept_along([elder, newer])]
            if grown:
                told += [are_held(elder, newer), unheld_way(elder, newer) is None, bare_parting(elder, newer) is None]
            if have_one_stock(elder, newer):
                told += [broken_rows(elder, newer) == [], is_agreeing([elder], newer), is_agreeing([elder, newer], newer)]
                self.assertIs(are_alike(elder, newer), is_kept and kept(newer, elder))
            self.assertEqual(set(told), {is_kept}, (elder.forms(), elder.hard(), newer.forms(), newer.hard()))
            seen.add((is_kept, grown, have_one_stock(elder, newer)))
        self.assertLessEqual({(True, True, True), (True, True, False), (False, True, True), (False, True, False), (False, False, False)}, seen)

    def test_one_agrees_just_if_it_keeps_all(self):
        for edition, newer in random_pairs(242, 80, 3, 4):
            if have_one_stock(edition, newer):
                for other in (edition, newer, least_agreeing([edition]), greatest_agreeing([newer]), least_agreeing([edition, newer])):
                    if other is not None:
                        for row in ([edition], [newer], [edition, newer]):
                            self.assertIs(is_agreeing(row, other), all(kept(one, other) for one in row))

    def test_marks_for_all_are_read_by_each(self):
        source = random.Random(243)
        for edition, tree in random_trees(244, 60, 5):
            editions = [edition] + [with_other_levels(source, edition, 4, 3) for _ in range(source.randint(0, 3))]
            text = marked(tree, one_for_all(editions, tree))
            for one in editions:
                self.assertEqual(naive.read(one, text), ("read", tree))
                self.assertEqual(naive.read(one, marked(tree, paths(tree))), ("read", tree))
                self.assertLessEqual(fewest_marks(one, tree), needed_for_all(editions, tree))

    def test_texts_that_are_led_are_read(self):
        source = random.Random(245)
        for edition, tree in random_trees(246, 80, 4):
            text = marked(tree, least_marks(edition, tree))
            newer = with_other_levels(source, edition, 4, 4)
            led = led_over(edition, newer, text)
            self.assertEqual([read(edition, led), read(newer, led)], [("read", tree)] * 2)
            if not least_marks(edition, tree):
                self.assertEqual(led_price(edition, newer, text), fewest_marks(newer, tree))
            if kept(edition, newer):
                self.assertEqual(led, text)

    def test_texts_with_no_idle_pairs(self):
        for edition, tree in random_trees(247, 80, 4):
            self.assertEqual(idle_number(edition, marked(tree, least_marks(edition, tree))), 0)

    def test_scripts_their_logs_and_their_texts_tell_one_thing(self):
        source = random.Random(248)
        for edition in random_editions(249, 30, 4, 4):
            script = some_script(source, edition, 9, 2)
            shop = Workshop(edition)
            play(shop, script)
            again = Workshop(read_edition(edition_text(edition)))
            play(again, read_script(script_text(script)))
            self.assertEqual(told(again), told(shop))
            self.assertEqual(told(replayed(Workshop(edition), shop.log())), told(shop))
            self.assertNotIn("refused", [row[0] for row in play(Workshop(edition), shop.log())])
            self.assertEqual(end_of(edition, shop.log()), end_of(edition, script))
            for spot in shop.spots():
                if shop.due(spot) is not None:
                    self.assertEqual(read_tree(tree_text(shop.due(spot))), shop.due(spot))
            self.assertEqual([read_change(change_text(change)) for change in told_changes(edition, shop.edition())], told_changes(edition, shop.edition()))

    def test_by_changes_that_keep_no_spot_is_parted_that_was_not(self):
        source, many = random.Random(250), 0
        for edition in random_editions(251, 60, 4, 4):
            shop = Workshop(edition)
            for _ in range(4):
                shop.enter(some_text(source, edition))
            for _ in range(6):
                before = shop.parted()
                try:
                    shop.change_kept(some_change(source, shop.edition(), ["a", "b", "+", "-"], 4))
                except TongueError:
                    continue
                many += 1
                self.assertLessEqual(set(shop.parted()), set(before))
        self.assertGreater(many, 60)

    def test_broken_texts_stand_among_those_that_surroundings_tell(self):
        # What is exchanged for one of its class is read in the same surroundings, to its own tree there.
        for edition in random_editions(252, 20, 3, 3):
            for look in looks(edition):
                around = surroundings_of(edition, look)
                for text in class_texts(edition):
                    whole = around[0] + text + around[1]
                    self.assertIs(passes(edition, text, look), fits(edition, text, around))
                    if fits(edition, text, around):
                        self.assertEqual(read(edition, whole)[0], "read")
