"""Scripts: commands for workshops, what is said to them, and their texts."""

from keptreadings.changing import are_by_form
from keptreadings.editions import require_edition
from keptreadings.errors import InvalidChange, InvalidEdit, InvalidScript, InvalidSpot, InvalidText
from keptreadings.errors import NothingToRedo, NothingToUndo, Refused, Unsound
from keptreadings.papers import change_of, change_text, lines_of
from keptreadings.spelling import FIGURES, is_count
from keptreadings.tokens import is_text
from keptreadings.workshop import Workshop, carry_out, copied_command, is_edit, require_workshop

SPOT_WORDS = ("close", "lead", "reading")
CHANGE_WORDS = ("change", "change_kept")
LONE_WORDS = ("parted", "undo", "redo")
END = "end"
INDENT = "  "
TEN_FIGURES = 10000000000


def is_command(value):
    """Whether any object is a command of a script."""
    if not isinstance(value, tuple) or not 1 <= len(value) <= 3:
        return False
    if len(value) == 1:
        return value[0] in LONE_WORDS
    if len(value) == 3:
        return value[0] == "edit" and is_count(value[1]) and is_edit(value[2])
    word, thing = value
    if word == "enter":
        return is_text(thing)
    if word == "try":
        return is_script(thing)
    return (word in SPOT_WORDS and is_count(thing)) or (word in CHANGE_WORDS and are_by_form(thing))


def is_script(value):
    """Whether any object is a script."""
    return isinstance(value, list) and all([is_command(command) for command in value])


def require_script(script):
    if not is_script(script):
        raise InvalidScript(script)


def play(shop, script):
    """What is said to the commands of a script that is carried out on a workshop."""
    require_workshop(shop)
    require_script(script)
    return played(shop, script)


def played(shop, script):
    return [said(shop, command) for command in script]


def said(shop, command):
    """What is said to a command, also if it is refused."""
    try:
        return answer(shop, command)
    except InvalidSpot:
        return ("refused", "InvalidSpot")
    except InvalidEdit:
        return ("refused", "InvalidEdit")
    except InvalidChange:
        return ("refused", "InvalidChange")
    except Unsound:
        return ("refused", "Unsound")
    except Refused:
        return ("refused", "Refused")
    except NothingToUndo:
        return ("refused", "NothingToUndo")
    except NothingToRedo:
        return ("refused", "NothingToRedo")


def answer(shop, command):
    """What is said to a command that is not refused."""
    word = command[0]
    if word == "try":
        with shop.trial():
            return ("tried", played(shop, command[1]))
    if word == "reading":
        return ("reading", shop.reading(command[1]))
    if word == "parted":
        return ("parted", shop.parted())
    if word == "enter":
        return ("entered", shop.enter(command[1]))
    if word == "undo":
        shop.undo()
    elif word == "redo":
        shop.redo()
    else:
        carry_out(shop, command)
    return ("done",)


def block_lines(word, lines):
    """The lines of a command with others in it."""
    return [word] + [INDENT + line for line in lines] + [END]


def figures_of(count):
    """The decimal digits of a count, also of one that is too long for Python to tell at once."""
    figures = ""
    while count >= TEN_FIGURES:
        count, low = divmod(count, TEN_FIGURES)
        figures = str(low).zfill(10) + figures
    return str(count) + figures


def command_lines(command):
    """The lines of a command."""
    word = command[0]
    if word == "try":
        return block_lines(word, script_lines(command[1]))
    if word in CHANGE_WORDS:
        return block_lines(word, [change_text(change) for change in command[1]])
    if word == "enter":
        return [" ".join([word] + command[1])]
    counts, tokens = list(command[1:]), []
    if word == "edit":
        begin, end, tokens = command[2]
        counts = [command[1], begin, end]
    return [" ".join([word] + [figures_of(count) for count in counts] + tokens)]


def script_lines(script):
    return [line for command in script for line in command_lines(command)]


def script_text(script):
    """The text of a script."""
    require_script(script)
    return "\n".join(script_lines(script))


def count_of(figures):
    """The count that figures tell, None if they are none."""
    if figures == "" or not all([figure in FIGURES for figure in figures]):
        return None
    count = 0
    for figure in figures:
        count = count * 10 + FIGURES.index(figure)
    return count


def command_of(line):
    """The command with no others in it that has a line, or anything that is none."""
    words = line.split(" ")
    if words[0] == "enter":
        return ("enter", words[1:])
    if words[0] == "edit" and len(words) > 3:
        spot, begin, end = [count_of(word) for word in words[1:4]]
        return ("edit", spot, (begin, end, words[4:]))
    return (words[0],) + tuple([count_of(word) for word in words[1:]])


def script_of(lines):
    """The script that has lines, or anything that is none; how far in they are is no matter here."""
    blocks = [("try", [])]
    for line in lines:
        told = line.lstrip(" ")
        word, things = blocks[-1]
        if told == END and len(blocks) > 1:
            blocks = blocks[:-1]
            blocks[-1][1].append((word, things))
        elif told == "try" or told in CHANGE_WORDS:
            blocks = blocks + [(told, [])]
        else:
            things.append(change_of(told) if word in CHANGE_WORDS else command_of(told))
    return blocks[0][1] if len(blocks) == 1 else None


def read_script(text):
    """The script that has a text."""
    script = script_of(lines_of(text))
    if not is_script(script) or script_text(script) != text:
        raise InvalidText(text)
    return script


def copied(command):
    """A command with lists of its own."""
    if command[0] == "try":
        return ("try", [copied(other) for other in command[1]])
    return copied_command(command)


def end_by(edition, script):
    """The edition and the texts with which a script ends on a new workshop."""
    shop = Workshop(edition)
    played(shop, script)
    return (shop.edition(), {spot: shop.text(spot) for spot in shop.spots()})


def end_of(edition, script):
    """The edition and the texts with which a script ends on a new workshop of an edition."""
    require_edition(edition)
    require_script(script)
    return end_by(edition, script)


def trimmed(edition, script):
    """A script without the commands that it does not need for its end, tried from the last one on."""
    end = end_of(edition, script)
    left = [copied(command) for command in script]
    for at in reversed(range(len(script))):
        shorter = left[:at] + left[at + 1:]
        if end_by(edition, shorter) == end:
            left = shorter
    return left
