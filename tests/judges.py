"""What is of which kind, told once more for the tests, by means of their own."""

import re

from keptreadings.editions import Edition

TOKEN = re.compile(r"[a-z]{1,8}|[-+*/<>=.,;:!?&|@^~\[\]{}]|0|[1-9][0-9]{0,7}|[()]|'[a-z]{1,8}", re.ASCII)
FIXED = re.compile(r"[a-z]{1,8}|[-+*/<>=.,;:!?&|@^~\[\]{}]", re.ASCII)
WORD = re.compile(r"[a-z]{1,8}", re.ASCII)


def matches(rule, value):
    return isinstance(value, str) and rule.fullmatch(value) is not None


def token(value):
    return matches(TOKEN, value)


def text(value):
    return isinstance(value, list) and all(token(item) for item in value)


def line(value):
    """A string that comes to tokens: the longest runs, cut by one expression."""
    if not isinstance(value, str):
        return False
    parts = re.findall(r"'[a-z]*|[a-z]+|[0-9]+| +|.", value, re.ASCII | re.DOTALL)
    return all(token(part) or part.strip(" ") == "" for part in parts)


def count(value):
    return isinstance(value, int) and not isinstance(value, bool) and value >= 0


def level(value):
    return count(value) and value < 10


def pattern(value):
    if not isinstance(value, tuple) or not all(isinstance(item, str) for item in value):
        return False
    if not 1 <= len(value) <= 7 or not all(item == "_" or matches(FIXED, item) for item in value):
        return False
    shape = "".join("_" if item == "_" else "x" for item in value)
    return "x" in shape and "__" not in shape and shape.count("_") <= 3


def form(value):
    if not isinstance(value, tuple) or len(value) != 3 or not pattern(value[0]) or not level(value[1]):
        return False
    if not isinstance(value[2], tuple) or not all(level(item) for item in value[2]):
        return False
    return len(value[2]) == len([item for item in value[0] if item == "_"])


def forms(value):
    return isinstance(value, list) and all(form(item) for item in value)


def words(value):
    if not isinstance(value, list) or not all(matches(WORD, item) for item in value):
        return False
    return len(set(value)) == len(value)


def edition(value):
    return isinstance(value, Edition)


def editions(value):
    return isinstance(value, list) and all(edition(item) for item in value)


def key(value):
    if not isinstance(value, tuple) or len(value) != 2 or not isinstance(value[0], str):
        return False
    if value[0] == "hole":
        return pattern(value[1]) and value[1][-1] == "_"
    return value[0] in ("head", "tail", "left") and matches(FIXED, value[1])


def change(value):
    if not isinstance(value, tuple) or not value or not isinstance(value[0], str):
        return False
    kind = (value[0], len(value))
    if kind == ("put", 2):
        return form(value[1])
    if kind == ("out", 2):
        return pattern(value[1])
    if kind == ("level", 3):
        return key(value[1]) and level(value[2])
    return kind in (("hard", 2), ("soft", 2)) and matches(WORD, value[1])


def changes(value):
    return isinstance(value, list) and all(change(item) for item in value)


def tree(value):
    if not isinstance(value, tuple) or len(value) != 2:
        return False
    if isinstance(value[0], str):
        if value[0] == "name":
            return matches(WORD, value[1])
        return value[0] == "number" and token(value[1]) and value[1].isdigit()
    if not pattern(value[0]) or not isinstance(value[1], list):
        return False
    return len(value[1]) == list(value[0]).count("_") and all(tree(part) for part in value[1])
