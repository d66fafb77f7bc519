"""Slow, plain writings of what the document says of two editions, from the forms alone."""

from tests import judges, naive
from tests.naive import HOLE, Reading

BOTTOM, BRACKET = ("bottom",), ("bracket",)


def reading(edition, text):
    return Reading(edition.forms(), edition.hard(), text)


def broken(elder, newer, text):
    """Whether a text is read by the elder, and not to the same tree by the newer."""
    outcome = naive.read(elder, text)
    return outcome[0] == "read" and naive.read(newer, text) != outcome


def tokens_of(elder, newer):
    return sorted(set(naive.tokens_of(elder)) | set(naive.tokens_of(newer)))


def texts_read(edition, tokens, most, cap=10 ** 9):
    """All texts of up to so many of these tokens that an edition reads, the shorter ones first.

    What faults ahead of its last token faults so with all that comes behind it.
    """
    found, rows, tries = [], [[]], 0
    for _ in range(most):
        longer = []
        for begun in rows:
            for token in tokens:
                tries += 1
                if tries > cap:
                    return found
                told = reading(edition, begun + [token])
                if told.fault is None:
                    found.append(begun + [token])
                if told.fault is None or told.fault >= len(begun):
                    longer.append(begun + [token])
        rows = longer
    return found


def broken_texts(elder, newer, most, cap=10 ** 9):
    return [text for text in texts_read(elder, tokens_of(elder, newer), most, cap) if broken(elder, newer, text)]


def patterns_in(tree):
    if tree[0] in ("name", "number"):
        return []
    return [tree[0]] + [one for part in tree[1] for one in patterns_in(part)]


def are_alike_so_far(one, other, many):
    """Whether two readings take so many tokens alike, on the same frames."""
    if one.hows[:many] != other.hows[:many] or len(other.hows) < many:
        return False
    return [state[0] for state in one.states[:many + 1]] == [state[0] for state in other.states[:many + 1]]


def shortest_broken(elder, newer, most, without=(), cap=6000):
    """The size of a shortest broken text of up to so many tokens; None if there is none; -1 for no answer.

    Of texts behind which all that counts is the same only the first one is followed.
    """
    rows, seen, tries = [[]], set(), 0
    for size in range(1, most + 1):
        longer = []
        for begun in rows:
            for token in tokens_of(elder, newer):
                text = begun + [token]
                one, other = reading(elder, text), reading(newer, text)
                if one.fault is not None and one.fault < len(begun):
                    continue
                if one.fault is None and one.outcome() != other.outcome():
                    if not any(pattern in without for pattern in patterns_in(one.outcome()[1])):
                        return size
                alike = are_alike_so_far(one, other, len(begun))
                trees = repr(one.frames) + repr(one.had) if without else ""
                mark = repr((one.states[len(begun)], token, alike, other.states[len(begun)] if alike else None,
                             [pattern for pattern in without if repr(pattern) in trees]))
                if mark not in seen:
                    seen.add(mark)
                    longer.append(text)
                tries += 1
                if tries > cap:
                    return -1
        rows = longer
    return None


# Frames, deeds and tables.

def frames(edition):
    places = {one[:at] for one, _, _ in edition.forms() for at in range(2, len(one) + 1) if one[at - 1] == HOLE}
    return [BRACKET] + [("form", place) for place in sorted(places)]


def asked(edition, frame):
    return reading(edition, []).hole(frame[1]) if frame[0] == "form" else 0


def may_stand(edition, frame, lower):
    return frame == BRACKET or reading(edition, []).own(frame[1]) >= asked(edition, lower)


def begins_value(edition, token):
    return judges.token(token) and reading(edition, []).begins_value(token)


def deed(edition, value, frame, token):
    here = reading(edition, [])
    if value is not None and token in here.follow(value):
        return ("on", value + (token,))
    if (frame, token) in ((BOTTOM, ""), (BRACKET, ")")):
        return ("take", ())
    if frame[0] == "form" and token in here.follow(frame[1]):
        return ("take", frame[1] + (token,))
    if token in here.tails() and here.tail(token)[0] >= asked(edition, frame):
        level = 10 if value is None else here.own(value)
        return ("tail", (HOLE, token)) if here.tail(token)[1] <= level else ("fault",)
    return ("end",) if frame[0] == "form" and here.ends(frame[1]) else ("fault",)


def first_deed(edition, frame, token, after):
    here = reading(edition, [])
    is_head = token in here.heads()
    if is_head and token.isalpha() and token not in here.hard:
        by_hole = here.has_hole((token,)) and begins_value(edition, after)
        is_head = by_hole or after in here.follow((token,))
    if not is_head:
        return ("name",) if token.isalpha() else ("fault",)
    return ("head", (token,)) if here.own((token,)) >= asked(edition, frame) else ("fault",)


class Tables:
    """The rows of two editions, and what a list of them has to have, sentence by sentence ([42], [44])."""

    def __init__(self, elder, newer):
        self.elder, self.newer = elder, newer
        here = reading(elder, [])
        self.patterns = here.patterns
        self.both = [BOTTOM] + [frame for frame in frames(elder) if frame in frames(newer)]
        self.tokens = sorted(set(here.tails() + here.middles())) + [")", ""]
        self.firsts = sorted({word for edition in (elder, newer) for word in reading(edition, []).heads()})
        self.any_token = tokens_of(elder, newer) + ["'a", "!", "?", "'q", ""]

    def all_rows(self):
        rows = [("wanted", frame) for frame in self.both]
        for kind in ("had", "elder"):
            rows += [(kind, value, frame, token) for value in [None] + self.patterns for frame in self.both for token in self.tokens]
        return rows

    def stand(self, frame, lower):
        return may_stand(self.elder, frame, lower) and may_stand(self.newer, frame, lower)

    def below(self, table, kind, frame, token):
        lowers = [row[1] for row in table if row[0] == "wanted" and self.stand(frame, row[1])]
        return [(kind, frame[1], lower, token) for lower in lowers]

    def asked_by(self, table, row):
        """The rows for which a row asks, None if it breaks the table."""
        if row[0] == "wanted":
            return self.asked_by_wanted(row[1])
        kind, value, frame, token = row
        one, other = deed(self.elder, value, frame, token), deed(self.newer, value, frame, token)
        if kind == "had" and one == other:
            return self.below(table, "had", frame, token) if one == ("end",) else []
        if one == ("end",):
            return self.below(table, "elder", frame, token)
        return [] if one == ("fault",) else None

    def asked_by_wanted(self, frame):
        whole = [one for one in self.patterns if one[-1] != HOLE and self.stand(("form", one), frame)]
        rows = [("wanted", upper) for upper in self.both if upper != BOTTOM and self.stand(upper, frame)]
        rows += [("had", value, frame, token) for value in [None] + whole for token in self.tokens]
        here = reading(self.elder, [])
        for first in self.firsts:
            if frame[0] == "form" and len(frame[1]) == 2 and frame[1][0] in here.heads():
                soft = frame[1][0].isalpha() and frame[1][0] not in here.hard
                if soft and not begins_value(self.elder, first):
                    continue
            for after in self.any_token:
                one = first_deed(self.elder, frame, first, after)
                if one == first_deed(self.newer, frame, first, after) or one == ("fault",):
                    continue
                if one == ("name",):
                    rows += [("elder", None, frame, after)] if after in self.tokens else []
                elif not self.is_dead(frame, first, after):
                    return None
        return rows

    def is_dead(self, frame, first, after):
        """Whether behind a head's first token another one is the fault, whatever comes then."""
        if reading(self.elder, []).ends((first,)):
            return False
        lead = [] if frame == BOTTOM else ["("] if frame == BRACKET else ["1" if item == HOLE else item for item in frame[1][:-1]]
        ahead = lead + [first] + ([after] if after else [])
        rests = [[]] + ([[token] for token in self.any_token if token] if after else [])
        return all(naive.read(self.elder, ahead + rest) == ("fault", len(lead) + 1) for rest in rests)

    def is_row(self, row):
        return row in self.all_rows()

    def is_table(self, value):
        known = set(value)
        if not set(self.patterns) <= set(reading(self.newer, []).patterns) or len(known) != len(value):
            return False
        if ("wanted", BOTTOM) not in known or not all(self.is_row(row) for row in value):
            return False
        needs = [self.asked_by(value, row) for row in value]
        return all(need is not None and set(need) <= known for need in needs)


# The rows that texts use.

def rows_of_text(edition, text):
    """The rows that a text uses which is read ([60]), told by what stands ahead of its tokens and behind them."""
    told = reading(edition, text)
    rows = []
    for at, token in enumerate(text):
        before, mode = told.states[at]
        how = told.hows[at]
        if mode[0] == "wanted" and how == ("form", (token,)) and before and before[-1] != BRACKET:
            rows.append(("on", before[-1][1], ("head", token)))
        if mode[0] != "had" or how != ("form", (HOLE, token)):
            continue
        after = told.states[at + 1][0]
        rest = after[:-1] if told.has_hole((HOLE, token)) else after
        ended = before[len(rest):]
        rows += [("off", frame[1], ("tail", token)) for frame in ended]
        if rest and rest[-1] != BRACKET:
            rows.append(("on", rest[-1][1], ("tail", token)))
        value = ended[0][1] if ended else told.hows[at - 1][1] if told.hows[at - 1][0] == "form" else None
        if value is not None:
            rows.append(("left", value, token))
    return rows


def sizes_of_rows(edition, most, cap):
    """The rows that texts of up to so many tokens use, each with the size of a shortest one."""
    found = {}
    for text in texts_read(edition, naive.tokens_of(edition), most, cap):
        for row in rows_of_text(edition, text):
            found.setdefault(row, len(text))
    return found


def says(edition, row):
    """Whether what a row says is so of an edition's levels."""
    here = reading(edition, [])
    own = {("tail", token): here.tail(token)[0] for token in here.tails()}
    own.update({("head", token): here.own((token,)) for token in here.heads()})
    if row[0] == "on":
        return own[row[2]] >= here.hole(row[1])
    if row[0] == "off":
        return own[row[2]] < here.hole(row[1])
    return here.own(row[1]) >= here.tail(row[2])[1]
