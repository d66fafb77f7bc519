"""Edits of texts, and workshops that keep texts open while their language changes."""

from keptreadings.editions import changed_by, require_edition
from keptreadings.errors import InvalidEdit, InvalidLog, InvalidSpot, InvalidWorkshop
from keptreadings.errors import NothingToRedo, NothingToUndo, Refused
from keptreadings.kept import kept
from keptreadings.leading import led_over
from keptreadings.reading import read, standings
from keptreadings.spelling import is_count
from keptreadings.tokens import is_text, require_text
from keptreadings.trees import copied_tree, first_unknown

# How many things stand behind the word of a command.
BEHIND_WORDS = {"enter": 1, "close": 1, "edit": 2, "change": 1, "change_kept": 1, "lead": 1}


def is_edit(value):
    """Whether any object is an edit by its form: two counts, in whatever order, and a text."""
    if not isinstance(value, tuple) or len(value) != 3:
        return False
    return is_count(value[0]) and is_count(value[1]) and is_text(value[2])


def require_edit(text, edit):
    if not is_edit(edit) or not edit[0] <= edit[1] <= len(text):
        raise InvalidEdit(edit)


def with_edit(text, edit):
    begin, end, tokens = edit
    return text[:begin] + tokens + text[end:]


def edited(text, edit):
    """The text with the tokens of an edit in the place of some of its own."""
    require_text(text)
    require_edit(text, edit)
    return with_edit(text, edit)


def met(edition, text, edit):
    """How many tokens behind an edit the old and the new text first have the same standing, or None."""
    require_edition(edition)
    new = standings(edition, edited(text, edit))
    old = standings(edition, text)
    begin, end, tokens = edit
    # Behind a fault there are no standings.
    for row, other in zip(list(enumerate(old))[end:], new[begin + len(tokens):]):
        if row[1] == other:
            return row[0] - end
    return None


class State:
    """What a workshop holds: the row of editions, by spots the open texts, and how many were entered.

    An open text is a tuple of the text, its own edition, and its due tree or None. A state never changes.
    """

    def __init__(self, row, texts, many):
        self.row = row
        self.texts = texts
        self.many = many

    def with_text(self, spot, text, due):
        """The state with a text at a spot, which belongs to the edition in use."""
        texts = {other: self.texts[other] for other in self.texts}
        texts[spot] = (text, self.row[-1], due)
        return State(self.row, texts, max(self.many, spot + 1))

    def with_read_text(self, spot, text):
        """The state with a text at a spot whose due tree is what the edition in use reads it to."""
        outcome = read(self.row[-1], text)
        return self.with_text(spot, text, outcome[1] if outcome[0] == "read" else None)

    def without_text(self, spot):
        texts = {other: self.texts[other] for other in self.texts if other != spot}
        return State(self.row, texts, self.many)

    def with_edition(self, edition):
        return State(self.row + [edition], self.texts, self.many)


class Trial:
    """A block at whose end a workshop is as it was when the block was entered."""

    def __init__(self, shop):
        self.shop = shop
        self.past = []
        self.later = []

    def __enter__(self):
        self.past = self.shop.past
        self.later = self.shop.later
        return self.shop

    def __exit__(self, kind, value, trace):
        shop = self.shop
        shop.past = self.past
        shop.later = self.later


def copied_command(command):
    """A command with lists of its own."""
    word = command[0]
    if word == "edit":
        begin, end, tokens = command[2]
        return (word, command[1], (begin, end, list(tokens)))
    if word in ("enter", "change", "change_kept"):
        return (word, list(command[1]))
    return command


class Workshop:
    """A row of editions, the last of which is in use, and open texts at spots.

    The past is a list of steps, each a command (None for the first one) and the state behind it; what was
    taken back is later. Both lists are only ever replaced, so that blocks and copies may hold them, too.
    """

    def __init__(self, edition):
        require_edition(edition)
        self.past = [(None, State([edition], {}, 0))]
        self.later = []

    def state(self):
        return self.past[-1][1]

    def step(self, command, state):
        self.past = self.past + [(copied_command(command), state)]
        self.later = []

    def opened(self, spot):
        """The text at a spot with its own edition and its due tree."""
        if not is_count(spot) or spot not in self.state().texts:
            raise InvalidSpot(spot)
        return self.state().texts[spot]

    def edition(self):
        """The edition in use."""
        return self.state().row[-1]

    def editions(self):
        """The list of all editions, the one in use last."""
        return list(self.state().row)

    def spots(self):
        """The ascending list of the spots of open texts."""
        return sorted(list(self.state().texts))

    def enter(self, text):
        """Open a text at the least spot that none has had; the spot."""
        require_text(text)
        spot = self.state().many
        self.step(("enter", text), self.state().with_read_text(spot, list(text)))
        return spot

    def close(self, spot):
        """Close the text at a spot."""
        self.opened(spot)
        self.step(("close", spot), self.state().without_text(spot))

    def edit(self, spot, edit):
        """Put the edited text in the place of the one at a spot."""
        text = self.opened(spot)[0]
        require_edit(text, edit)
        self.step(("edit", spot, edit), self.state().with_read_text(spot, with_edit(text, edit)))

    def text(self, spot):
        """The text at a spot."""
        return list(self.opened(spot)[0])

    def due(self, spot):
        """The due tree of the text at a spot, None if it has none."""
        due = self.opened(spot)[2]
        return None if due is None else copied_tree(due)

    def reading(self, spot):
        """What the edition in use tells of the text at a spot."""
        return read(self.edition(), self.opened(spot)[0])

    def is_parted(self, spot):
        due = self.due(spot)
        return due is not None and self.reading(spot) != ("read", due)

    def parted(self):
        """The ascending list of the spots whose due tree the edition in use does not read."""
        return [spot for spot in self.spots() if self.is_parted(spot)]

    def change(self, changes):
        """Put the edition in use that changes make of the one in use."""
        newer = changed_by(self.edition(), changes)
        self.step(("change", changes), self.state().with_edition(newer))

    def change_kept(self, changes):
        """Put the edition in use that changes make, unless some text is not kept."""
        newer = changed_by(self.edition(), changes)
        if not kept(self.edition(), newer):
            raise Refused(changes)
        self.step(("change_kept", changes), self.state().with_edition(newer))

    def lead(self, spot):
        """Lead the text at a spot over to the edition in use."""
        text, own, due = self.opened(spot)
        if due is None or first_unknown(self.edition(), due) is not None:
            raise Refused(spot)
        led = led_over(own, self.edition(), text)
        self.step(("lead", spot), self.state().with_text(spot, led, due))

    def log(self):
        """The commands that are not taken back."""
        return [copied_command(command) for command, _ in self.past[1:]]

    def undo(self):
        """Take back the last command."""
        if len(self.past) == 1:
            raise NothingToUndo()
        self.later = self.past[-1:] + self.later
        self.past = self.past[:-1]

    def redo(self):
        """Make the command again that was taken back last."""
        if not self.later:
            raise NothingToRedo()
        self.past = self.past + self.later[:1]
        self.later = self.later[1:]

    def trial(self):
        """A block at whose end all is as it was at its beginning."""
        return Trial(self)

    def attempt(self, action):
        """What an action returns that is called with the workshop in a block."""
        with self.trial():
            return action(self)

    def copy(self):
        """An independent workshop that is the same, and in no block."""
        other = Workshop(self.edition())
        other.past = self.past
        other.later = self.later
        return other


def require_workshop(workshop):
    if not isinstance(workshop, Workshop):
        raise InvalidWorkshop(workshop)


def carry_out(shop, command):
    """Make a command of a log; the spot that is entered, otherwise None."""
    word, thing = command[0], command[1]
    if word == "enter":
        return shop.enter(thing)
    if word == "close":
        return shop.close(thing)
    if word == "edit":
        return shop.edit(thing, command[2])
    if word == "change":
        return shop.change(thing)
    if word == "change_kept":
        return shop.change_kept(thing)
    return shop.lead(thing)


def is_logged(value):
    """Whether any object is a tuple of a command's word and as many things as stand behind it."""
    if not isinstance(value, tuple) or not value or not isinstance(value[0], str):
        return False
    return value[0] in BEHIND_WORDS and len(value) == 1 + BEHIND_WORDS[value[0]]


def replayed(workshop, log):
    """A copy of a workshop in which the commands of a log are made behind."""
    require_workshop(workshop)
    if not isinstance(log, list) or not all([is_logged(command) for command in log]):
        raise InvalidLog(log)
    shop = workshop.copy()
    for command in log:
        carry_out(shop, command)
    return shop
