"""Rows and runs as texts, and back."""

from tilepushes.errors import InvalidText
from tilepushes.rows import GREATEST_LEVEL, check_row, check_runs, is_runs

EMPTY = "-"
DIGITS = "0123456789"


# Not by `isdigit`: a row that is written in other digits would have two texts.
def is_number(word):
    """Return whether a word is a decimal number without leading zeros."""
    if word == "" or not all([sign in DIGITS for sign in word]):
        return False
    return word == "0" or word[0] != "0"


def is_number_to(word, most):
    """Return whether a word is a decimal number of at most another number."""
    return is_number(word) and int(word) <= most


def is_pair_word(word):
    """Return whether a word is two decimal numbers with an x between."""
    level, _, count = word.partition("x")
    return is_number(level) and is_number(count)


def pair_in(word):
    """Return the two numbers of a word."""
    level, _, count = word.partition("x")
    return int(level), int(count)


def words_in(text):
    """Return the words of a text, of which the text of an empty row has none."""
    if text == EMPTY:
        return []
    return text.split(" ")


def pairs_in(text):
    """Return the pairs of numbers of a text, which need not be runs."""
    return [pair_in(word) for word in words_in(text)]


def text_of(words):
    """Return the text of words."""
    if words == []:
        return EMPTY
    return " ".join(words)


# Without a check: a push on a tray may lead from the greatest level to the one beyond.
def row_text(row):
    """Return the text of the levels of tiles."""
    return text_of([str(level) for level in row])


def is_row_text(value):
    """Return whether a value is the text of a row."""
    return isinstance(value, str) and all([is_number_to(word, GREATEST_LEVEL) for word in words_in(value)])


def is_runs_text(value):
    """Return whether a value is the text of runs."""
    if not isinstance(value, str) or not all([is_pair_word(word) for word in words_in(value)]):
        return False
    return is_runs(pairs_in(value))


def show_row(row):
    """Return the text of a row."""
    check_row(row)
    return row_text(row)


def show_runs(runs):
    """Return the text of runs."""
    check_runs(runs)
    return text_of([f"{level}x{count}" for level, count in runs])


def read_row(text):
    """Return the row of a text."""
    if not is_row_text(text):
        raise InvalidText("the text of a row consists of levels with single spaces between")
    return [int(word) for word in words_in(text)]


def read_runs(text):
    """Return the runs of a text."""
    if not is_runs_text(text):
        raise InvalidText("the text of runs consists of items LEVELxCOUNT, no level beside itself")
    return pairs_in(text)
