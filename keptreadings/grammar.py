"""The tables of sound forms and hard words by which texts are read."""

from keptreadings.patterns import HOLE, followers, key_levels, middle_tokens

MOST_ANSWERS = 60


def what_follows(place, items, levels):
    """Whether a pattern ends at a place, the level of its hole or None, its tokens."""
    hole = levels[("hole", place + (HOLE,))] if HOLE in items else None
    tokens = [item for item in items if item not in (HOLE, "")]
    return ("" in items, hole, sorted(set(tokens)))


class Grammar:
    """The levels by keys, what follows behind places, and the tokens by their kinds.

    A grammar never changes: so what costs much and was asked once may be kept with it, by questions that
    tell all that the answer rests on.
    """

    def __init__(self, forms, hard):
        self.told = (tuple(forms), tuple(hard))
        self.answers = {}
        patterns = [form[0] for form in forms]
        self.levels = {}
        for form in forms:
            for key, level in key_levels(form):
                self.levels[key] = level
        behind = followers(patterns)
        self.follows = {place: what_follows(place, behind[place], self.levels) for place in behind}
        self.middles = {token: True for token in middle_tokens(patterns)}
        self.hard_words = {word: True for word in hard}

    def keep(self, question, answer):
        """Keep an answer, and not more than so many."""
        if len(self.answers) >= MOST_ANSWERS:
            self.answers = {}
        self.answers[question] = answer

    def tails(self):
        """The ascending list of the tail tokens."""
        return sorted([key[1] for key in self.levels if key[0] == "tail"])

    def heads(self):
        """The ascending list of the first tokens of heads."""
        return sorted([key[1] for key in self.levels if key[0] == "head"])

    def later_tokens(self):
        """What may come behind a value: the tail and middle tokens, ascending, ")" and the end."""
        return sorted(set(self.tails() + list(self.middles))) + [")", ""]

    def patterns(self):
        """The ascending list of the patterns."""
        return sorted([place for place in self.follows if self.follows[place][0]])

    def first_places(self):
        """The places behind the tokens by which forms begin, first and tail tokens."""
        return [(token,) for token in self.heads()] + [(HOLE, token) for token in self.tails()]

    def own_levels(self):
        """The ascending own levels of the forms."""
        return sorted(set([self.levels[key] for key in self.levels if key[0] in ("head", "tail")]))

    def fixed(self):
        """The ascending list of all fixed tokens."""
        return sorted(set([key[1] for key in self.levels if key[0] in ("head", "tail")] + list(self.middles)))
