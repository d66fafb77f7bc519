"""Slow, plain writings of the document, from the forms alone, against which the program is held."""

from heapq import heappop, heappush
from itertools import product

HOLE = "_"
LETTERS = "abcdefghijklmnopqrstuvwxyz"


def beginnings(pattern):
    return [pattern[:at] for at in range(1, len(pattern) + 1)]


def levels_by_keys(forms):
    """For each key all levels that forms have for it ([16])."""
    found = {}

    def add(key, level):
        found.setdefault(key, set()).add(level)

    for pattern, level, levels in forms:
        add(("tail", pattern[1]) if pattern[0] == HOLE else ("head", pattern[0]), level)
        left = list(levels)
        for beginning in beginnings(pattern):
            if beginning[-1] == HOLE:
                hole = left.pop(0)
                add(("left", pattern[1]) if len(beginning) == 1 else ("hole", beginning), hole)
    return found


def first_clash(forms, hard):
    """[16], kind by kind."""
    patterns = [form[0] for form in forms]
    twice = [one for at, one in enumerate(patterns) if one in patterns[:at]]
    if twice:
        return ("twice", min(twice))
    unlike = [key for key, levels in levels_by_keys(forms).items() if len(levels) > 1]
    if unlike:
        return ("level", min(unlike))
    branches = []
    for one in patterns:
        for beginning in beginnings(one):
            behind = [other[len(beginning):] for other in patterns if other[:len(beginning)] == beginning]
            holes = [rest for rest in behind if rest and rest[0] == HOLE]
            if any(item != HOLE for item in beginning) and 0 < len(holes) < len(behind):
                branches.append(beginning)
    if branches:
        return ("branch", min(branches))
    tails = [one[1] for one in patterns if one[0] == HOLE]
    heads = [one[0] for one in patterns if one[0] != HOLE]
    middles = [item for one in patterns for item in one[2 if one[0] == HOLE else 1:] if item != HOLE]
    both = [token for token in tails if token in middles]
    if both:
        return ("both", min(both))
    nowhere = [word for word in hard if word not in heads]
    if nowhere:
        return ("hard", min(nowhere))
    alone = [one[0] for one in patterns if len(one) == 1 and one[0][0] in LETTERS and one[0] not in hard]
    return ("soft", min(alone)) if alone else None


class Reading:
    """The reading of a text by forms and hard words ([21]), with open forms as lists."""

    def __init__(self, forms, hard, text):
        self.forms, self.hard, self.text = forms, hard, text
        self.patterns = [form[0] for form in forms]
        self.frames = []      # ["bracket"] or ["form", place, trees]
        self.mode = ("wanted",)
        self.had = None       # [level, place or None, tree]
        self.hows, self.states = [], []
        self.fault = None
        self.go()

    # What the forms tell.

    def heads(self):
        return [pattern[0] for pattern in self.patterns if pattern[0] != HOLE]

    def tails(self):
        return [pattern[1] for pattern in self.patterns if pattern[0] == HOLE]

    def middles(self):
        return [item for one in self.patterns for item in one[2 if one[0] == HOLE else 1:] if item != HOLE]

    def behind(self, place):
        return [one[len(place):][:1] for one in self.patterns if one[:len(place)] == place]

    def ends(self, place):
        return () in self.behind(place)

    def follow(self, place):
        return [item[0] for item in self.behind(place) if item and item[0] != HOLE]

    def has_hole(self, place):
        return (HOLE,) in self.behind(place)

    def own(self, place):
        for pattern, level, _ in self.forms:
            if pattern[:len(place)] == place:
                return level

    def hole(self, place):
        for pattern, _, levels in self.forms:
            if pattern[:len(place)] == place:
                return levels[place.count(HOLE) - 1]

    def tail(self, token):
        for pattern, level, levels in self.forms:
            if pattern[:2] == (HOLE, token):
                return level, levels[0]

    def begins_value(self, token):
        if token is None or token == ")":
            return False
        if token.isdigit() or token[0] == "'" or token == "(" or token in self.heads():
            return True
        return token.isalpha() and token not in self.tails() and token not in self.middles()

    # The reading.

    def asked(self):
        if not self.frames or self.frames[-1][0] == "bracket":
            return 0
        return self.hole(self.frames[-1][1])

    def state(self):
        frames = [("bracket",) if frame[0] == "bracket" else ("form", frame[1]) for frame in self.frames]
        if self.mode[0] != "had":
            return (frames, self.mode[:2])
        level, place, _ = self.had
        return (frames, ("had", level, place if place and self.follow(place) else None))

    def go(self):
        for at, token in enumerate(self.text):
            self.states.append(self.state())
            after = self.text[at + 1] if at + 1 < len(self.text) else None
            how = {"wanted": self.wanted, "due": self.due, "had": self.goes}[self.mode[0]](token, after)
            if how is None:
                self.fault = at
                return
            self.hows.append(how)
        self.states.append(self.state())
        while self.mode[0] == "had" and self.frames and self.end_one():
            pass
        if self.frames or self.mode[0] != "had":
            self.fault = len(self.text)

    def leaf(self, word, content):
        self.had = [10, None, (word, content)]
        self.mode = ("had",)
        return (word,)

    def wanted(self, token, after):
        if token.isdigit():
            return self.leaf("number", token)
        if token[0] == "'":
            return self.leaf("name", token[1:])
        if token == "(":
            self.frames.append(["bracket"])
            return ("open",)
        begins = token in self.heads()
        if begins and token.isalpha() and token not in self.hard:
            by_hole = self.has_hole((token,)) and self.begins_value(after)
            begins = by_hole or after in self.follow((token,))
        if begins:
            return None if self.own((token,)) < self.asked() else self.come((token,), [])
        return self.leaf("name", token) if token.isalpha() else None

    def due(self, token, _):
        _, place, trees = self.mode
        return self.come(place + (token,), trees) if token in self.follow(place) else None

    def come(self, place, trees):
        if self.has_hole(place):
            self.frames.append(["form", place + (HOLE,), trees])
            self.mode = ("wanted",)
        elif self.ends(place):
            self.had = [self.own(place), place, (place, trees)]
            self.mode = ("had",)
        else:
            self.mode = ("due", place, trees)
        return ("form", place)

    def goes(self, token, _):
        level, place, tree = self.had
        if place and token in self.follow(place):
            return self.come(place + (token,), tree[1])
        while True:
            level, place, tree = self.had
            if self.frames and self.frames[-1][0] == "bracket" and token == ")":
                self.frames.pop()
                self.had = [10, None, tree]
                return ("close",)
            if self.frames and self.frames[-1][0] == "form" and token in self.follow(self.frames[-1][1]):
                _, place, trees = self.frames.pop()
                return self.come(place + (token,), trees + [tree])
            if token in self.tails() and self.tail(token)[0] >= self.asked():
                if self.tail(token)[1] > level:
                    return None
                return self.come((HOLE, token), [tree])
            if not self.frames or not self.end_one():
                return None

    def end_one(self):
        frame = self.frames[-1]
        if frame[0] == "bracket" or not self.ends(frame[1]):
            return False
        self.frames.pop()
        self.had = [self.own(frame[1]), frame[1], (frame[1], frame[2] + [self.had[2]])]
        return True

    def left(self):
        """How many tokens would bring all that is open to an end, if none were in the way."""
        places = [frame[1] for frame in self.frames if frame[0] == "form"]
        places = places + [self.mode[1]] if self.mode[0] == "due" else places
        rests = [min(len(one) - len(place) for one in self.patterns if one[:len(place)] == place) for place in places]
        brackets = len([frame for frame in self.frames if frame[0] == "bracket"])
        return sum(rests) + brackets + (1 if self.mode[0] == "wanted" else 0)

    def outcome(self):
        return ("read", self.had[2]) if self.fault is None else ("fault", self.fault)


def read(edition, text):
    return Reading(edition.forms(), edition.hard(), text).outcome()


def tokens_of(edition):
    """The fixed tokens of an edition, brackets, a number and a word that is fixed nowhere."""
    return sorted({item for form in edition.forms() for item in form[0] if item != HOLE} | {"(", ")", "1", "q"})


def some_text(edition, tokens, way, tries):
    """A text that is read and begins with tokens, the last one taken in a way (if one is told), or None.

    A search that looks first where little is left to do, and gives up after so many texts.
    """
    heap, seen = [(0, tokens)], set()
    while heap and tries > 0:
        _, text = heappop(heap)
        tries -= 1
        reading = Reading(edition.forms(), edition.hard(), text)
        right = way is None or way in [how[0] for how in reading.hows[len(tokens) - 1:len(tokens)]]
        if right and reading.fault is None:
            return text
        # A soft word at the end is read by what comes behind it.
        if not right and len(text) > len(tokens):
            continue
        # A fault ahead of the last token stays, whatever comes behind.
        if reading.fault is not None and reading.fault < len(text) - 1:
            continue
        mark = repr((reading.states[max(len(text) - 1, 0)], text[-1:], len(text) == len(tokens)))
        if mark not in seen:
            seen.add(mark)
            price = len(text) + reading.left()
            for token in tokens_of(edition):
                heappush(heap, (price, text + [token]))
    return None


def all_texts(tokens, many):
    for size in range(many + 1):
        for text in product(tokens, repeat=size):
            yield list(text)


def shortest_ending_size(edition, lead, most):
    """The size of a shortest ending behind tokens that lead to a stack, None if it is above most."""
    rows = [["1"]]
    seen = set()
    for size in range(1, most + 1):
        longer = []
        for tokens in rows:
            reading = Reading(edition.forms(), edition.hard(), lead + tokens)
            if reading.fault is None:
                return size
            if reading.fault < len(lead + tokens) - 1:
                continue
            mark = repr((reading.states[len(lead + tokens) - 1], tokens[-1]))
            if mark not in seen:
                seen.add(mark)
                longer.extend([tokens + [token] for token in tokens_of(edition)])
        rows = longer
    return None
