"""Which rows texts use as an edition reads them, and what rows say of its levels."""

from keptreadings.deeds import BOTTOM, LEAF_LEVEL, deed_at, own_level
from keptreadings.patterns import own_key
from keptreadings.reader import Reader
from keptreadings.reduced import hole_places, reduced_rows
from keptreadings.runs import tokens_of
from keptreadings.spelling import NUMBER


def key_comparison(row):
    """The tuple (lower, upper, step): what a row says of the levels at two keys.

    The level at the upper one is at least so far above that at the lower one.
    """
    if row[0] == "on":
        return (("hole", row[1]), row[2], 0)
    if row[0] == "off":
        return (row[2], ("hole", row[1]), 1)
    return (("left", row[2]), own_key(row[1]), 0)


def is_so(row, levels):
    """Whether what a row says is so of levels by their keys."""
    lower, upper, step = key_comparison(row)
    return levels[upper] >= levels[lower] + step


def start_of_row(grammar, row):
    """Where texts begin that use a row: a node of the runs, with the tokens that are there already."""
    if row[0] == "left":
        # What a tail begins with anywhere can stand on the bottom, too.
        return (("had", BOTTOM, own_level(grammar, row[1]), row[2]), tokens_of(row[1]))
    frame, key = ("form", row[1]), row[2]
    if key[0] == "head":
        return (("begun", frame, (key[1],)), [])
    return (("had", frame, LEAF_LEVEL, key[1]), [NUMBER])


def off_rows(grammar):
    """The rows by which a frame might end ahead of a tail token."""
    places = [place for place in hole_places(grammar) if grammar.follows[place][0]]
    pairs = [(place, token) for place in places for token in grammar.tails()]
    rows = [("off", place, ("tail", token)) for place, token in pairs]
    return [row for row in rows if is_so(row, grammar.levels)]


def rows_of_runs(runs):
    """The ascending list of the rows that texts use which are read."""
    rows = reduced_rows(runs.elder) + off_rows(runs.elder)
    return sorted([row for row in rows if runs.routes.is_open(start_of_row(runs.elder, row)[0])])


def rows_at_head(reader, token, after):
    """The rows that are used as a token is taken where a value is wanted."""
    frame = reader.innermost()
    how = reader.take(token, after)
    if frame[0] == "form" and how[0] == "form":
        return [("on", frame[1], ("head", token))]
    return []


def rows_at_tail(reader, token):
    """The rows that are used as a token is taken behind a value; the frames that it ends are ended."""
    key = ("tail", token)
    grammar = reader.grammar
    frame, value = reader.innermost(), reader.mode[1]
    rows = []
    deed = deed_at(grammar, value, frame, token)
    while deed == ("end",):
        if key in grammar.levels:
            rows.append(("off", frame[1], key))
        reader.have_form(reader.frames.pop()[1])
        frame, value = reader.innermost(), reader.mode[1]
        deed = deed_at(grammar, value, frame, token)
    if deed[0] == "tail":
        if frame[0] == "form":
            rows.append(("on", frame[1], key))
        if value is not None:
            rows.append(("left", value, token))
    return rows


def rows_used_by(grammar, text):
    """The rows that the reading of a text uses which is read."""
    reader = Reader(grammar)
    rows = []
    for at, token in enumerate(text):
        after = text[at + 1] if at + 1 < len(text) else ""
        if reader.mode == ("wanted",):
            rows.extend(rows_at_head(reader, token, after))
            continue
        if reader.mode[0] == "had":
            rows.extend(rows_at_tail(reader, token))
        reader.take(token, after)
    return rows
