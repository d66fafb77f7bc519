"""How stacks that two editions may have both are led to, and how the elder one brings them to an end.

A run goes from where a value is had, through the frames that end one by one, to the end of a text. It
tells the stack as it goes: each frame that ends stood on one that both may have below it. No shortest
text needs a bracket for this: what stands in one would do alone, with the end in the place of ")".
"""

from keptreadings.deeds import BOTTOM, LEAF_LEVEL, begins_value, deed_for_level, first_deed_at, is_soft, own_level
from keptreadings.endings import Endings
from keptreadings.patterns import HOLE
from keptreadings.routes import Routes
from keptreadings.spelling import NUMBER
from keptreadings.stacks import may_stand_on, tokens_to

GOAL = ("goal",)


def tokens_of(pattern):
    """The fewest tokens of a form of a pattern."""
    return [NUMBER if item == HOLE else item for item in pattern]


def form_frames_of_both(elder, newer):
    """The ascending frames that two grammars have both, but the bracket."""
    places = [place for place in sorted(list(elder.follows)) if place[-1] == HOLE and place in newer.follows]
    return [("form", place) for place in places]


def stands_in_both(elder, newer, frame, lower):
    """Whether a frame may stand on another one in two grammars."""
    return may_stand_on(elder, frame, lower) and may_stand_on(newer, frame, lower)


def is_name_at(grammar, frame, word, after):
    """Whether a word may come first in a frame and stands as a name there before another token."""
    if frame[0] == "form" and len(frame[1]) == 2 and is_soft(grammar, frame[1][0]):
        # The soft word is read by what comes behind it.
        if not begins_value(grammar, word):
            return False
    return first_deed_at(grammar, frame, word, after) == ("name",)


class Runs:
    """The runs of an elder grammar on stacks that it and a newer one may have both.

    The nodes of the routes are ("had", frame, level, token), where a value of a level is had that does
    not go on by the token; ("below", frame, token), where this frame has just ended; ("taken", frame,
    token), where it takes the token; ("begun", frame, place), where a form begins there and is at this
    place behind its first fixed token. None of some barred patterns is made.
    """

    def __init__(self, elder, newer, barred):
        self.elder = elder
        self.newer = newer
        self.barred = barred
        self.table = Endings(elder, barred).table
        self.waiting = [token for token in elder.later_tokens() if token != ")"]
        self.frames = [BOTTOM] + form_frames_of_both(elder, newer)
        self.routes = Routes(GOAL)
        for frame in self.frames:
            self.add_had(frame)
            self.add_begun(frame)
        for frame in self.frames[1:]:
            self.add_taken(frame)
            self.add_below(frame)

    def lower_frames(self, frame):
        """The frames on which one may stand in both."""
        return [lower for lower in self.frames if stands_in_both(self.elder, self.newer, frame, lower)]

    def add_had(self, frame):
        for level in self.elder.own_levels() + [LEAF_LEVEL]:
            for token in self.waiting:
                target = self.behind_deed(deed_for_level(self.elder, level, frame, token), frame, token)
                if target is not None:
                    self.routes.add(("had", frame, level, token), target, (), ())

    def behind_deed(self, deed, frame, token):
        """The node to which a deed leads, None if it leads nowhere."""
        if deed[0] == "take":
            return GOAL if frame == BOTTOM else ("taken", frame, token)
        if deed[0] == "tail":
            return ("begun", frame, deed[1])
        if deed[0] == "end" and frame[1] not in self.barred:
            return ("below", frame, token)
        return None

    def add_begun(self, frame):
        """Bring forms to an end that may begin in a frame, by their first fixed tokens."""
        for place in self.elder.first_places():
            if may_stand_on(self.elder, ("form", place), frame):
                level = own_level(self.elder, place)
                needs = self.table[place]
                for token in needs:
                    target = ("had", frame, level, token)
                    self.routes.add(("begun", frame, place), target, (), place[-1:] + needs[token])

    def add_taken(self, frame):
        """Bring a form to an end whose frame has taken a token."""
        for own in self.elder.follows[frame[1]][2]:
            needs = self.table[frame[1] + (own,)]
            for token in needs:
                self.routes.add(("taken", frame, own), ("below", frame, token), (), (own,) + needs[token])

    def add_below(self, frame):
        """Go down from a frame to those on which it may stand, and lay down what opens it."""
        level = own_level(self.elder, frame[1])
        ahead = tokens_to(frame)
        for lower in self.lower_frames(frame):
            for token in self.waiting:
                self.routes.add(("below", frame, token), ("had", lower, level, token), ahead, ())


def runs_without(grammar, barred):
    """The measured runs of a grammar on all of its own stacks, with none of some barred patterns."""
    runs = Runs(grammar, grammar, barred)
    runs.routes.measure()
    return runs


def runs_alone(grammar):
    """The measured runs of a grammar on all of its own stacks."""
    if "runs" not in grammar.answers:
        grammar.keep("runs", runs_without(grammar, []))
    return grammar.answers["runs"]
