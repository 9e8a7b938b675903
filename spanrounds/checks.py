"""Checks of the numbers that several modules take."""

from spanrounds.errors import InvalidNumber, InvalidPlace, InvalidRounds, InvalidSize

MOST_ENTRIES = 100
GREATEST_ENTRY = 10 ** 30
MOST_ROUNDS = 10 ** 30


def is_whole(value, low, high):
    """Tell whether a value is an integer from low to high."""
    # True and False are integers to Python, but not to the package.
    return isinstance(value, int) and not isinstance(value, bool) and low <= value <= high


def check_place(place, size):
    """Raise InvalidPlace unless a row of this size has the place."""
    if not is_whole(place, 0, size - 1):
        raise InvalidPlace("the place is not an integer from 0 to the number of entries minus 1")


def check_rounds(rounds):
    """Raise InvalidRounds unless this is a number of rounds."""
    if not is_whole(rounds, 0, MOST_ROUNDS):
        raise InvalidRounds("the number of rounds is not an integer from 0 to 10 ** 30")


def check_size(size):
    """Raise InvalidSize unless this is a number of entries."""
    if not is_whole(size, 1, MOST_ENTRIES):
        raise InvalidSize("the size is not an integer from 1 to 100")


def check_number(number, count):
    """Raise InvalidNumber unless one of so many things, numbered from 0, has this number."""
    if not is_whole(number, 0, count - 1):
        raise InvalidNumber("the number is not an integer from 0 to the count minus 1")
