"""Shortest ways to end what stands open.

Where a value is wanted, a number is the best one: it costs one token, has the greatest level and goes
on by nothing. So a form is brought to its end by its own tokens and numbers, and a tail is needed only
to end a frame that would take the token that waits. It is begun then with the form of this frame.
"""

from keptreadings.deeds import BOTTOM, BRACKET, LEAF_LEVEL, own_level, stays_at
from keptreadings.patterns import HOLE
from keptreadings.spelling import NUMBER


def shorter(one, other):
    """The shorter one of two rows of tokens, either of which may be None."""
    if one is None or (other is not None and len(other) < len(one)):
        return other
    return one


class Endings:
    """How the forms of a grammar are brought to an end with fewest tokens.

    In the table are, for each place and each token that may wait, the fewest tokens that make a form
    at this place a whole one while the token is right behind it, and is not taken by it. Behind a
    place that ends with a hole a number stands already. No form of a barred pattern is made.
    """

    def __init__(self, grammar, barred):
        self.grammar = grammar
        self.barred = barred
        self.waiting = grammar.later_tokens()
        self.table = {}
        # What a place needs rests on what the longer ones need.
        for place in sorted(list(grammar.follows), key=lambda row: -len(row)):
            needs = {token: self.need(place, token) for token in self.waiting}
            self.table[place] = {token: needs[token] for token in needs if needs[token] is not None}

    def need(self, place, token):
        """The fewest tokens from a place on before a token that waits, None if none let it by."""
        ends, hole, tokens = self.grammar.follows[place]
        if hole is not None:
            return self.need_behind((NUMBER,), place + (HOLE,), token)
        best = None
        if ends and place not in self.barred and token not in tokens and not self.is_kept_at(place, token):
            best = ()
        for own in tokens:
            best = shorter(best, self.need_behind((own,), place + (own,), token))
        return best

    def need_behind(self, begun, place, token):
        needs = self.table[place]
        return begun + needs[token] if token in needs else None

    def is_kept_at(self, place, token):
        """Whether the hole with which a place ends would take a token as a tail token."""
        return place[-1] == HOLE and stays_at(self.grammar, ("form", place), token)


def longer(chain, tokens):
    """A chain with tokens behind: how many there are, the last ones, and the chain ahead."""
    return (chain[0] + len(tokens), tokens, chain)


def chained(chain):
    """The list of the tokens of a chain."""
    rows = []
    while chain is not None:
        rows.append(chain[1])
        chain = chain[2]
    return [token for tokens in reversed(rows) for token in tokens]


def keep_shorter(chains, token, chain):
    if token not in chains or chain[0] < chains[token][0]:
        chains[token] = chain


def past_tails(endings, frame, chains, level):
    """The chains by the token that waits, when tails have been taken in a frame, where they help.

    A chain comes with a value of this level. None is left of those whose token is taken as a tail.
    """
    grammar = endings.grammar
    passing, begun = {}, {}
    arrived = [(token, level, chains[token]) for token in chains]
    while arrived:
        token, had, chain = arrived.pop()
        if not stays_at(grammar, frame, token):
            keep_shorter(passing, token, chain)
        elif grammar.levels[("left", token)] <= had:
            if token not in begun or chain[0] < begun[token][0]:
                begun[token] = chain
                place = (HOLE, token)
                needs = endings.table[place]
                own = own_level(grammar, place)
                arrived = arrived + [(behind, own, longer(chain, (token,) + needs[behind])) for behind in needs]
    return passing


def past_form(endings, frame, chains):
    """The chains by the token that waits, when a form's frame has ended or has taken its token."""
    ends, _, tokens = endings.grammar.follows[frame[1]]
    passed = {}
    for token in chains:
        if token in tokens:
            needs = endings.table[frame[1] + (token,)]
            for behind in needs:
                keep_shorter(passed, behind, longer(chains[token], (token,) + needs[behind]))
        elif ends:
            keep_shorter(passed, token, chains[token])
    return passed


def shortest_ending(grammar, stack):
    """A shortest list of tokens that ends a stack, a number first."""
    endings = Endings(grammar, [])
    chains = {token: (1, (NUMBER,), None) for token in endings.waiting}
    level = LEAF_LEVEL
    for frame in reversed(stack):
        chains = past_tails(endings, frame, chains, level)
        if frame == BRACKET:
            closed = longer(chains[")"], (")",))
            chains = {token: closed for token in endings.waiting}
            level = LEAF_LEVEL
        else:
            chains = past_form(endings, frame, chains)
            level = own_level(grammar, frame[1])
    return chained(past_tails(endings, BOTTOM, chains, level)[""])
