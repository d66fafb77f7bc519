"""Tokens, texts and lines."""

from keptreadings.editions import require_editions
from keptreadings.errors import InvalidCount, InvalidText, InvalidToken
from keptreadings.spelling import FIGURES, LETTERS, QUOTE, is_count, is_number, is_quoted, is_sign, is_word

BRACKETS = ("(", ")")
MOST_WORDS = 1000


def is_token(value):
    """Whether any object is a token."""
    if not isinstance(value, str):
        return False
    return value in BRACKETS or is_word(value) or is_sign(value) or is_number(value) or is_quoted(value)


def require_token(token):
    if not is_token(token):
        raise InvalidToken(token)


def is_text(value):
    return isinstance(value, list) and all([is_token(token) for token in value])


def require_text(text):
    if not is_text(text):
        raise InvalidText(text)


def kind(token):
    """The word for the kind of a token."""
    require_token(token)
    if token == "(":
        return "open"
    if token == ")":
        return "close"
    if is_word(token):
        return "word"
    if is_number(token):
        return "number"
    return "quoted" if is_quoted(token) else "sign"


def run_end(line, begin):
    """The position behind the letters, or the figures, that stand at a position of a line."""
    characters = LETTERS if line[begin] in LETTERS else FIGURES
    end = begin
    while end < len(line) and line[end] in characters:
        end += 1
    return end


def token_end(line, begin):
    """The position behind what runs together from a position of a line on."""
    if line[begin] == QUOTE and line[begin + 1:begin + 2] in list(LETTERS):
        return run_end(line, begin + 1)
    if line[begin] in LETTERS or line[begin] in FIGURES:
        return run_end(line, begin)
    return begin + 1


def cut(line):
    """The text that a line tells."""
    if not isinstance(line, str):
        raise InvalidText(line)
    text = []
    at = 0
    while at < len(line):
        end = token_end(line, at)
        if line[at] != " ":
            text.append(line[at:end])
        at = end
    if not is_text(text):
        raise InvalidText(line)
    return text


def line_of(text):
    """The line of a text with one blank between neighbours."""
    require_text(text)
    return " ".join(text)


def run_together(token, after):
    """Whether two tokens would be another token, or none, without a blank between."""
    if is_word(after):
        return is_word(token) or is_quoted(token)
    return is_number(token) and is_number(after)


def tight_line(text):
    """The one shortest line that tells a text."""
    require_text(text)
    line = ""
    for at, token in enumerate(text):
        if at > 0 and run_together(text[at - 1], token):
            line += " "
        line += token
    return line


def unmarked(text):
    """The text without brackets, its quoted words as words."""
    require_text(text)
    return [token[1:] if is_quoted(token) else token for token in text if token not in BRACKETS]


def word_at(at):
    """The word at a position of all words in order of length and then of letters."""
    word = ""
    left = at + 1
    while left > 0:
        left -= 1
        word = LETTERS[left % 26] + word
        left = left // 26
    return word


def free_words(editions, many):
    """The first so many words that stand in no pattern of some editions."""
    require_editions(editions)
    if not is_count(many) or many > MOST_WORDS:
        raise InvalidCount(many)
    fixed = [token for edition in editions for token in edition.grammar.fixed()]
    words = []
    at = 0
    while len(words) < many:
        if word_at(at) not in fixed:
            words.append(word_at(at))
        at += 1
    return words
