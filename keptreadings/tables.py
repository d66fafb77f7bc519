"""Closed tables which tell that an elder edition's texts are all kept by a newer one.

A row stands for what both, or the elder alone, may come to. It may break nothing itself, and asks for
the rows that come next.
"""

from keptreadings.deeds import BOTTOM, BRACKET, begins_value, deed_at, first_deed_at, is_soft
from keptreadings.patterns import HOLE
from keptreadings.runs import form_frames_of_both, stands_in_both
from keptreadings.spelling import NUMBER, is_word


def is_fault_at(grammar, place, token):
    """Whether a token right behind a head's first one is the fault, whatever comes behind it."""
    ends, hole, tokens = grammar.follows[place]
    if ends:
        return False
    if hole is None:
        return token not in tokens
    # A word can be a name there. The first token of heads that are too low would be the fault, too, but
    # a row that asks about it asks about a number as well, which is none.
    return not (is_word(token) or begins_value(grammar, token))


class Rows:
    """The rows of two grammars, and what each of them asks for; the newer has the elder's patterns."""

    def __init__(self, elder, newer):
        self.elder = elder
        self.newer = newer
        self.frames = [BOTTOM, BRACKET] + form_frames_of_both(elder, newer)
        self.tokens = elder.later_tokens()
        self.known_patterns = elder.patterns()
        self.firsts = newer.heads()
        self.behind = newer.fixed() + [NUMBER, ")", ""]

    def is_row(self, value):
        """Whether any object is a row."""
        if not isinstance(value, tuple) or len(value) not in (2, 4):
            return False
        if len(value) == 2:
            return value[0] == "wanted" and value[1] in self.frames
        if value[0] not in ("had", "elder") or value[2] not in self.frames:
            return False
        return (value[1] is None or value[1] in self.known_patterns) and value[3] in self.tokens

    def stands(self, frame, lower):
        return stands_in_both(self.elder, self.newer, frame, lower)

    def needs(self, row, wanted):
        """The rows for which a row asks in a list with these wanted frames; None if it breaks it."""
        if row[0] == "wanted":
            names = self.names_parted(row[1])
            return None if names is None else self.opened(row[1]) + names
        _, value, frame, token = row
        deed = deed_at(self.elder, value, frame, token)
        kind = row[0]
        if kind == "had" and deed != deed_at(self.newer, value, frame, token):
            kind = "elder"
        elif kind == "had" and deed != ("end",):
            return []
        if deed == ("end",):
            return [(kind, frame[1], lower, token) for lower in wanted if self.stands(frame, lower)]
        return [] if deed == ("fault",) else None

    def opened(self, frame):
        """The rows of the frames and of the values that both may have in a frame."""
        whole = [pattern for pattern in self.known_patterns if pattern[-1] != HOLE]
        values = [None] + [pattern for pattern in whole if self.stands(("form", pattern), frame)]
        rows = [("wanted", upper) for upper in self.frames[1:] if self.stands(upper, frame)]
        return rows + [("had", value, frame, token) for value in values for token in self.tokens]

    def may_come_first(self, frame, token):
        """Whether a first token of heads may come where a frame has just been opened in the elder."""
        if frame[0] == "form" and frame[1][1:] == (HOLE,) and is_soft(self.elder, frame[1][0]):
            return begins_value(self.elder, token)
        return True

    def names_parted(self, frame):
        """The elder's rows behind words that it alone reads as names in a frame; None if it parts else."""
        rows = []
        for first in [token for token in self.firsts if self.may_come_first(frame, token)]:
            for after in self.behind:
                deed = first_deed_at(self.elder, frame, first, after)
                if deed == ("fault",) or deed == first_deed_at(self.newer, frame, first, after):
                    continue
                if deed != ("name",):
                    if not is_fault_at(self.elder, deed[1], after):
                        return None
                elif after in self.tokens:
                    rows.append(("elder", None, frame, after))
        return rows

    def least_table(self):
        """The rows that stand in each table, None if there is no table."""
        found = {}
        waiting = [("wanted", BOTTOM)]
        while waiting:
            row = waiting.pop()
            if row not in found:
                found[row] = True
                # Each frame may stand on the bottom, so that all are wanted.
                needs = self.needs(row, self.frames)
                if needs is None:
                    return None
                waiting.extend(needs)
        return list(found)

    def is_table(self, value):
        """Whether any object is a list of rows that asks for none but its own."""
        if not isinstance(value, list) or not all([self.is_row(row) for row in value]):
            return False
        known = {row: True for row in value}
        wanted = [row[1] for row in value if row[0] == "wanted"]
        if len(known) != len(value) or BOTTOM not in wanted:
            return False
        for row in value:
            needs = self.needs(row, wanted)
            if needs is None or not all([need in known for need in needs]):
                return False
        return True
