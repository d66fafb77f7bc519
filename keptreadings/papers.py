"""Texts of editions, trees, changes and tables, and what stands in such texts.

A reader takes a text apart without much care, and then asks the writer whether it makes the same text.
"""

from keptreadings.changing import is_change
from keptreadings.clashes import least_clash
from keptreadings.deeds import BOTTOM, BRACKET
from keptreadings.editions import Edition, is_form, require_edition
from keptreadings.errors import InvalidChange, InvalidTable, InvalidText
from keptreadings.patterns import HOLE, is_key, is_pattern
from keptreadings.spelling import FIGURES, QUOTE, are_words, is_fixed, is_number
from keptreadings.trees import all_parts, is_any_tree, is_leaf, require_tree

NOTHING = "--"


def lines_of(text):
    """The lines of any object that is a string; none of an empty one."""
    if not isinstance(text, str):
        raise InvalidText(text)
    return text.split("\n") if text != "" else []


def level_of(figure):
    """The level that a string tells, None if it tells none."""
    return int(figure) if len(figure) == 1 and figure in FIGURES else None


def form_line(form):
    """A form's own level, and the items of its pattern, each hole with its level."""
    pattern, level, levels = form
    left = list(levels)
    items = [HOLE + str(left.pop(0)) if item == HOLE else item for item in pattern]
    return " ".join([str(level)] + items)


def form_of(words):
    """The form whose line has these words, or anything that is no form."""
    pattern = tuple([HOLE if word[:1] == HOLE else word for word in words[1:]])
    levels = tuple([level_of(word[1:]) for word in words[1:] if word[:1] == HOLE])
    return (pattern, level_of(words[0]), levels)


def edition_text(edition):
    """The lines of the forms of an edition, and that of its hard words."""
    require_edition(edition)
    return "\n".join([form_line(form) for form in edition.forms()] + [" ".join(["hard"] + edition.hard())])


def read_edition(text):
    """The edition that has a text."""
    rows = [line.split(" ") for line in lines_of(text)]
    forms = [form_of(row) for row in rows[:-1]]
    hard = rows[-1][1:] if rows else []
    if not all([is_form(form) for form in forms]) or not are_words(hard) or least_clash(forms, hard) is not None:
        raise InvalidText(text)
    edition = Edition(forms, hard)
    if edition_text(edition) != text:
        raise InvalidText(text)
    return edition


def part_line(part):
    """The line of the root of a tree."""
    if part[0] == "name":
        return QUOTE + part[1]
    return part[1] if is_leaf(part) else " ".join(part[0])


def tree_text(tree):
    """The lines of a tree, those of each part below that of the form in which it is, and further in."""
    require_tree(tree)
    return "\n".join(["  " * len(path) + part_line(part) for path, part in all_parts(tree)])


def root_of(line, parts):
    """The tree whose root has a line, and whose parts are the last ones of some, the first one last of all."""
    if line[:1] == QUOTE:
        return ("name", line[1:])
    if is_number(line):
        return ("number", line)
    pattern = tuple(line.split(" "))
    many = pattern.count(HOLE)
    return (pattern, [parts[-1 - at] for at in range(many)] if many <= len(parts) else [])


def read_tree(text):
    """The tree that has a text."""
    parts = []
    for line in reversed(lines_of(text)):
        tree = root_of(line.lstrip(" "), parts)
        if not is_leaf(tree):
            parts = parts[:len(parts) - len(tree[1])]
        parts.append(tree)
    if len(parts) != 1 or not is_any_tree(parts[0]) or tree_text(parts[0]) != text:
        raise InvalidText(text)
    return parts[0]


def line_of_change(change):
    """The line of a change by its form."""
    if change[0] == "put":
        return "put " + form_line(change[1])
    if change[0] == "out":
        return "out " + " ".join(change[1])
    if change[0] == "level":
        kind, told = change[1]
        items = list(told) if kind == "hole" else [told]
        return " ".join(["level", kind] + items + [str(change[2])])
    return change[0] + " " + change[1]


def change_of(line):
    """The change whose line this is, None if it is none."""
    words = line.split(" ")
    change = tuple(words)
    if words[0] == "put" and len(words) > 1:
        change = ("put", form_of(words[1:]))
    elif words[0] == "out":
        change = ("out", tuple(words[1:]))
    elif words[0] == "level" and len(words) > 3:
        told = tuple(words[2:-1]) if words[1] == "hole" else words[2]
        change = ("level", (words[1], told), level_of(words[-1]))
    return change if is_change(change) and line_of_change(change) == line else None


def change_text(change):
    """The line of a change."""
    if not is_change(change):
        raise InvalidChange(change)
    return line_of_change(change)


def read_change(text):
    """The change that has a text."""
    change = change_of(text) if isinstance(text, str) else None
    if change is None:
        raise InvalidText(text)
    return change


def is_any_frame(value):
    """Whether any object is a frame, or the bottom, whatever editions there are."""
    if value in (BOTTOM, BRACKET):
        return True
    return isinstance(value, tuple) and len(value) == 2 and value[0] == "form" and is_key(("hole", value[1]))


def is_any_row(value):
    """Whether any object is a row, whatever editions there are."""
    if not isinstance(value, tuple) or len(value) not in (2, 4):
        return False
    if len(value) == 2:
        return value[0] == "wanted" and is_any_frame(value[1])
    if value[0] not in ("had", "elder") or not is_any_frame(value[2]):
        return False
    return (value[1] is None or is_pattern(value[1])) and (is_fixed(value[3]) or value[3] in (")", ""))


def frame_words(frame):
    return " ".join(["form"] + list(frame[1])) if frame[0] == "form" else frame[0]


def row_line(row):
    """The line of a row, two blanks ahead of each thing."""
    if row[0] == "wanted":
        return "wanted  " + frame_words(row[1])
    kind, value, frame, token = row
    told = NOTHING if value is None else " ".join(value)
    return "  ".join([kind, told, frame_words(frame), NOTHING if token == "" else token])


def frame_of(words):
    """The frame that words tell, or anything that is none."""
    items = words.split(" ")
    return ("form", tuple(items[1:])) if items[0] == "form" else tuple(items)


def row_of(line):
    """The row that has a line, or anything that is none."""
    things = line.split("  ")
    if len(things) == 2:
        return (things[0], frame_of(things[1]))
    if len(things) != 4:
        return ()
    value = None if things[1] == NOTHING else tuple(things[1].split(" "))
    return (things[0], value, frame_of(things[2]), "" if things[3] == NOTHING else things[3])


def is_any_table(value):
    return isinstance(value, list) and all([is_any_row(row) for row in value])


def table_text(table):
    """The lines of a list of rows."""
    if not is_any_table(table):
        raise InvalidTable(table)
    return "\n".join([row_line(row) for row in table])


def read_table(text):
    """The list of rows that has a text."""
    table = [row_of(line) for line in lines_of(text)]
    if not is_any_table(table) or table_text(table) != text:
        raise InvalidText(text)
    return table
