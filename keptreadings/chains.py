"""Trees with fewest nodes that have a way in a newer grammar which the elder one does not hold.

Such a tree is a form, in one of its holes a chain of forms, each in a hole of the one above it, perhaps a
name below them, and numbers in all other holes. A way goes down along the chain. It goes along right holes
where something is caught, or a word meant, by the token behind the uppermost hole, and along left ones
where something is too low for this hole, or begins no value there. The elder must have no need on it.
"""

from keptreadings.deeds import begins_form, begins_value, is_soft, own_level
from keptreadings.patterns import HOLE, hole_key, is_tail
from keptreadings.reduced import takes
from keptreadings.spelling import NUMBER, is_word


def is_late(grammar, pattern, at, word):
    """Whether a word that begins a hole of a pattern keeps its first word from being read as a form's."""
    return at == 1 and is_soft(grammar, pattern[0]) and not begins_value(grammar, word)


def with_numbers(pattern, at, part):
    """The tree of a pattern with a part in its hole at a position, and numbers in all other holes."""
    holes = [position for position in range(len(pattern)) if pattern[position] == HOLE]
    return (pattern, [part if position == at else ("number", NUMBER) for position in holes])


def many_holes(patterns):
    return sum([pattern.count(HOLE) for pattern in patterns])


def shortest_chains(starts, below):
    """For each pattern that comes down from some of them the chain to it whose forms have fewest holes."""
    chains = {pattern: [pattern] for pattern in starts}
    waiting = list(starts)
    while waiting:
        pattern = waiting.pop()
        for lower in below[pattern]:
            chain = chains[pattern] + [lower]
            if lower not in chains or many_holes(chain) < many_holes(chains[lower]):
                chains[lower] = chain
                waiting.append(lower)
    return chains


class Chains:
    """The chains in one hole of a pattern on which the elder grammar has no need.

    A candidate is a tuple of how many nodes its tree has, the patterns with the positions of the holes
    that are gone down by, and the part below.
    """

    def __init__(self, elder, newer, pattern, at):
        self.elder = elder
        self.newer = newer
        self.pattern = pattern
        self.at = at
        self.key = hole_key(pattern, at)
        self.token = pattern[at + 1] if at + 1 < len(pattern) else ""
        self.words = [token for token in newer.fixed() if is_word(token)]
        self.starts = self.fitting(elder.levels[self.key], self.token)

    def fitting(self, level, token):
        """The patterns at which the elder has no need where a level is asked and a token is behind."""
        patterns = [one for one in self.elder.patterns() if own_level(self.elder, one) >= level]
        return [one for one in patterns if not takes(self.elder, one, token)]

    def below_right(self, pattern):
        if pattern[-1] != HOLE:
            return []
        return self.fitting(self.elder.levels[("hole", pattern)], self.token)

    def below_left(self, pattern):
        if not is_tail(pattern):
            return []
        level = max(self.elder.levels[self.key], self.elder.levels[("left", pattern[1])])
        return self.fitting(level, pattern[1])

    def candidate(self, chain, positions, part, many):
        """The candidate with a chain below which a part of so many nodes is."""
        steps = list(zip([self.pattern] + chain, [self.at] + positions))
        return (many_holes([pattern for pattern, _ in steps]) + many, steps, part)

    def form_below(self, chain, positions):
        """The candidate whose lowest part is the form of the last pattern of a chain."""
        last = chain[-1]
        return self.candidate(chain[:-1], positions, with_numbers(last, None, None), 1 + last.count(HOLE))

    def names_below(self, chain, positions, words):
        """The candidate whose lowest part is the name of the first one of some words, if there is one."""
        return [self.candidate(chain, positions, ("name", word), 1) for word in words[:1]]

    def meant_words(self, pattern, at):
        """The words that the newer alone means as forms in a hole along the right, as far as the token goes."""
        words = [word for word in self.words if begins_form(self.newer, word, self.token)]
        words = [word for word in words if not begins_form(self.elder, word, self.token)]
        return [word for word in words if not is_late(self.elder, pattern, at, word)]

    def late_words(self, token):
        """The words that begin no value in the newer alone ahead of a token in the uppermost hole."""
        words = [word for word in self.words if is_late(self.newer, self.pattern, self.at, word)]
        words = [word for word in words if not is_late(self.elder, self.pattern, self.at, word)]
        return [word for word in words if not begins_form(self.elder, word, token)]

    def along_right(self):
        """The candidates in which the token behind the hole is caught, or means a word, in the newer."""
        chains = shortest_chains(self.starts, {one: self.below_right(one) for one in self.elder.patterns()})
        found = self.names_below([], [], self.meant_words(self.pattern, self.at))
        for last in chains:
            chain = chains[last]
            positions = [len(pattern) - 1 for pattern in chain]
            if takes(self.newer, last, self.token):
                found.append(self.form_below(chain, positions[:-1]))
            if last[-1] == HOLE:
                found.extend(self.names_below(chain, positions, self.meant_words(last, positions[-1])))
        return found

    def along_left(self):
        """The candidates in which a form is too low for the hole, or a word begins no value, in the newer."""
        chains = shortest_chains(self.starts, {one: self.below_left(one) for one in self.elder.patterns()})
        found = self.names_below([], [], self.late_words(self.token))
        for last in chains:
            chain = chains[last]
            if own_level(self.newer, last) < self.newer.levels[self.key]:
                found.append(self.form_below(chain, [0] * (len(chain) - 1)))
            if is_tail(last):
                found.extend(self.names_below(chain, [0] * len(chain), self.late_words(last[1])))
        return found

    def right_at_left_hole(self):
        """The candidates in which a form is too low for a left hole in the newer."""
        lows = [one for one in self.starts if own_level(self.newer, one) < self.newer.levels[self.key]]
        return [self.form_below([one], []) for one in lows]

    def candidates(self):
        if self.at == 0:
            return self.along_right() + self.right_at_left_hole()
        return self.along_right() + self.along_left()


def least_unheld_tree(elder, newer):
    """A tree of the elder grammar with fewest nodes that has an unheld way, None if there is none."""
    for word in sorted(list(newer.hard_words)):
        if word not in elder.hard_words:
            return ("name", word)
    found = []
    for pattern in elder.patterns():
        for at in [position for position in range(len(pattern)) if pattern[position] == HOLE]:
            found.extend(Chains(elder, newer, pattern, at).candidates())
    if not found:
        return None
    _, steps, part = min(found, key=lambda row: row[0])
    for pattern, at in reversed(steps):
        part = with_numbers(pattern, at, part)
    return part
