"""How single tokens and counts are made up."""

LETTERS = "abcdefghijklmnopqrstuvwxyz"
FIGURES = "0123456789"
SIGNS = "+-*/<>=.,;:!?&|@^~[]{}"
QUOTE = "'"
# The number that stands where any one will do.
NUMBER = "0"
MOST_SIGNS = 8
GREATEST_LEVEL = 9


def is_run(value):
    """Whether any object is a string of one to eight characters, none of which is strange."""
    return isinstance(value, str) and 1 <= len(value) <= MOST_SIGNS and value.isascii()


def is_word(value):
    return is_run(value) and value.isalpha() and value.islower()


def are_words(value):
    """Whether any object is a list of unlike words."""
    return isinstance(value, list) and all([is_word(word) for word in value]) and len(set(value)) == len(value)


def is_sign(value):
    return isinstance(value, str) and len(value) == 1 and value in SIGNS


def is_number(value):
    return is_run(value) and value.isdigit() and (value == "0" or value[0] != "0")


def is_quoted(value):
    return isinstance(value, str) and value[:1] == QUOTE and is_word(value[1:])


def is_fixed(value):
    """Whether any object can be a fixed token of a pattern."""
    return is_word(value) or is_sign(value)


def is_count(value):
    return isinstance(value, int) and not isinstance(value, bool) and value >= 0


def are_ascending_counts(value):
    """Whether any object is an ascending list of counts."""
    if not isinstance(value, list) or not all([is_count(item) for item in value]):
        return False
    return all([item < later for item, later in zip(value, value[1:])])


def is_level(value):
    return is_count(value) and value <= GREATEST_LEVEL
