"""Which texts can be brought to an end, and what may come behind them.

Where a value is had, a token is due, or a value is wanted, some text that is read always goes on from
there. So only a soft word whose form would be a fault can be a dead end: it has to be a name, and
something that lets it be one has to come right behind it.
"""

from keptreadings.deeds import asked_level, is_soft, own_level
from keptreadings.editions import require_edition
from keptreadings.reader import Reader, take_all
from keptreadings.spelling import NUMBER
from keptreadings.tokens import require_text


def is_too_low(reader, token):
    """Whether a form that a first token begins where a value is wanted is a fault."""
    return own_level(reader.grammar, (token,)) < asked_level(reader.grammar, reader.innermost())


def is_name_before(reader, word, after):
    """Whether a soft word is a name if a token, or the end, comes right behind it and is no fault."""
    trial = reader.copied()
    if trial.take(word, after) != ("name",):
        return False
    if after == "":
        return trial.is_read()
    return trial.take(after, "") is not None


def can_be_name(reader, word):
    """Whether something can come behind a soft word that lets it be a name."""
    return any([is_name_before(reader, word, after) for after in reader.grammar.fixed() + [")", ""]])


def can_take(reader, token):
    """Whether a token can be taken so that some text that is read goes on behind it."""
    if reader.mode == ("wanted",) and is_soft(reader.grammar, token):
        return not is_too_low(reader, token) or can_be_name(reader, token)
    return reader.copied().take(token, "") is not None


def first_dead(edition, tokens):
    """The position of the first token with which tokens are no start, None if they are one."""
    require_edition(edition)
    require_text(tokens)
    reader = Reader(edition.grammar)
    for at in range(len(tokens)):
        if not can_take(reader, tokens[at]):
            return at
        if at + 1 < len(tokens) and reader.take(tokens[at], tokens[at + 1]) is None:
            return at + 1
    return None


def is_start(edition, tokens):
    """Whether some text that is read begins with these tokens."""
    return first_dead(edition, tokens) is None


def reader_behind(edition, tokens, after):
    """A reader that has taken all the tokens, with one behind them; None if it cannot."""
    reader = Reader(edition.grammar)
    if len(take_all(reader, tokens + [after], len(tokens))) < len(tokens):
        return None
    return reader


def may_come_fixed(edition, tokens, token):
    """Whether a fixed token may come, taken as a token of a form."""
    reader = reader_behind(edition, tokens, token)
    if reader is None:
        return False
    if reader.mode == ("wanted",):
        return ("head", token) in reader.grammar.levels and not is_too_low(reader, token)
    return reader.take(token, "") is not None


def may_come_other(edition, tokens, token):
    """Whether a token that is fixed nowhere may come."""
    reader = reader_behind(edition, tokens, token)
    return reader is not None and reader.take(token, "") is not None


def may_end(edition, tokens):
    """Whether a start is a text that is read."""
    reader = reader_behind(edition, tokens, "")
    return reader is not None and reader.is_read()


def may_come(edition, tokens):
    """What may come behind a start: (fixed, value, close, end); None behind what is none."""
    if not is_start(edition, tokens):
        return None
    fixed = [token for token in edition.grammar.fixed() if may_come_fixed(edition, tokens, token)]
    value = may_come_other(edition, tokens, NUMBER)
    close = may_come_other(edition, tokens, ")")
    return (fixed, value, close, may_end(edition, tokens))
