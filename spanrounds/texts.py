"""Rows as texts."""

from spanrounds.errors import InvalidText
from spanrounds.rows import check_row, is_row

# The greatest entry, 10 ** 30, has so many.
MOST_DIGITS = 31


def show_row(row):
    """Return the text of a row."""
    check_row(row)
    return " ".join([str(entry) for entry in row])


def read_row(text):
    """Return the row with this text."""
    if not isinstance(text, str):
        raise InvalidText("the text is not a string")
    words = text.split(" ")
    if not all([is_number(word) for word in words]):
        raise InvalidText("a word is not a number, or the words are not separated by single spaces")
    row = tuple([int(word) for word in words])
    if not is_row(row):
        raise InvalidText("there are more than 100 entries, or one is not from -10 ** 30 to 10 ** 30")
    return row


def is_number(word):
    """Tell whether a word is a decimal number of at most 31 digits, with a sign if it is negative."""
    if word.startswith("-"):
        return word != "-0" and is_natural(word[1:])
    return is_natural(word)


def is_natural(word):
    """Tell whether a word is a decimal number of at most 31 digits, without a sign and without leading zeros."""
    # isdigit alone would take digits of other scripts, too.
    if not word.isascii() or not word.isdigit() or len(word) > MOST_DIGITS:
        return False
    return word == "0" or not word.startswith("0")
