"""The reader that goes through a text token by token, one token ahead, never back."""

from keptreadings.deeds import BOTTOM, BRACKET, deed_at, first_deed_at, value_level
from keptreadings.patterns import HOLE
from keptreadings.spelling import is_number, is_quoted


class Reader:
    """The open frames, the mode, and the trees that are had so far.

    The trees of a form stand side by side, the last ones of all, until it is had; a form that goes
    on lays its trees out so again. In the mode ("had", value) a value is as in deeds.
    """

    def __init__(self, grammar):
        self.grammar = grammar
        self.frames = []
        self.mode = ("wanted",)
        self.trees = []

    def copied(self):
        other = Reader(self.grammar)
        other.frames = list(self.frames)
        other.mode = self.mode
        other.trees = list(self.trees)
        return other

    def innermost(self):
        return self.frames[-1] if self.frames else BOTTOM

    def take(self, token, after):
        """How a token is taken, with the one behind it ("" at the end); None if it is the fault."""
        if self.mode[0] == "wanted":
            return self.take_wanted(token, after)
        if self.mode[0] == "due":
            return self.take_due(token)
        return self.take_had(token)

    def take_wanted(self, token, after):
        if token == "(":
            self.frames.append(BRACKET)
            return ("open",)
        if is_number(token):
            return self.take_leaf("number", token)
        if is_quoted(token):
            return self.take_leaf("name", token[1:])
        deed = first_deed_at(self.grammar, self.innermost(), token, after)
        if deed[0] == "name":
            return self.take_leaf("name", token)
        if deed[0] == "head":
            return self.come_to(deed[1])
        return None

    def take_leaf(self, word, content):
        self.trees.append((word, content))
        self.mode = ("had", None)
        return (word,)

    def take_due(self, token):
        place = self.mode[1]
        if token in self.grammar.follows[place][2]:
            return self.come_to(place + (token,))
        return None

    def take_had(self, token):
        deed = self.end_frames(token)
        if deed[0] == "fault":
            return None
        if deed[0] == "on":
            form = self.trees.pop()
            self.trees.extend(form[1])
        if deed[0] == "take":
            self.frames.pop()
        if deed[1] == ():
            self.mode = ("had", None)
            return ("close",)
        return self.come_to(deed[1])

    def end_frames(self, token):
        """End the frames that end by a token; what is done with it then."""
        deed = deed_at(self.grammar, self.mode[1], self.innermost(), token)
        while deed[0] == "end":
            frame = self.frames.pop()
            self.have_form(frame[1])
            deed = deed_at(self.grammar, self.mode[1], self.innermost(), token)
        return deed

    def have_form(self, pattern):
        """A form of this pattern, whose trees are the last ones, is the value now."""
        first = len(self.trees) - pattern.count(HOLE)
        self.trees[first:] = [(pattern, self.trees[first:])]
        self.mode = ("had", pattern)

    def come_to(self, place):
        """Go on behind the fixed token with which a place ends."""
        ends, hole, _ = self.grammar.follows[place]
        if hole is not None:
            self.frames.append(("form", place + (HOLE,)))
            self.mode = ("wanted",)
        elif ends:
            self.have_form(place)
        else:
            self.mode = ("due", place)
        return ("form", place)

    def is_read(self):
        """Whether the text is read if it ends here; the frames that end by this are ended."""
        return self.mode[0] == "had" and self.end_frames("")[0] == "take"

    def told_mode(self):
        """The mode with the level of a value, and its pattern only if it may go on."""
        if self.mode[0] != "had":
            return self.mode
        value = self.mode[1]
        place = value if value is not None and self.grammar.follows[value][2] else None
        return ("had", value_level(self.grammar, value), place)


def take_all(reader, text, many):
    """Let a reader take the first tokens of a text; how each ahead of the fault is taken."""
    hows = []
    for at in range(many):
        how = reader.take(text[at], text[at + 1] if at + 1 < len(text) else "")
        if how is None:
            return hows
        hows.append(how)
    return hows
