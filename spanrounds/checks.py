"""Checks of the numbers that several modules take."""

from spanrounds.errors import InvalidEntry, InvalidNumber, InvalidPlace, InvalidRounds, InvalidSize

MOST_ENTRIES = 100
GREATEST_ENTRY = 10 ** 30
MOST_ROUNDS = 10 ** 30


def is_int(value):
    """Tell whether a value is an integer."""
    # True and False are integers to Python, but not to the package.
    return isinstance(value, int) and not isinstance(value, bool)


def is_whole(value, low, high):
    """Tell whether a value is an integer from low to high."""
    return is_int(value) and low <= value <= high


def is_entry(value):
    """Tell whether a value can be an entry of a row."""
    return is_whole(value, -GREATEST_ENTRY, GREATEST_ENTRY)


def check_entry(entry):
    """Raise InvalidEntry unless this can be an entry of a row."""
    if not is_entry(entry):
        raise InvalidEntry("the entry is not an integer from -10 ** 30 to 10 ** 30")


def check_place(place, size):
    """Raise InvalidPlace unless a row of this size has the place."""
    if not is_whole(place, 0, size - 1):
        raise InvalidPlace(f"the place is not an integer from 0 to {size - 1}")


def check_rounds(rounds, least=0):
    """Raise InvalidRounds unless this is a number of rounds, and not below the least one."""
    if not is_whole(rounds, least, MOST_ROUNDS):
        raise InvalidRounds(f"the number of rounds is not an integer from {least} to 10 ** 30")


def check_size(size):
    """Raise InvalidSize unless this is a number of entries."""
    if not is_whole(size, 1, MOST_ENTRIES):
        raise InvalidSize("the size is not an integer from 1 to 100")


def check_number(number, count):
    """Raise InvalidNumber unless one of so many things, numbered from 0, has this number."""
    if not is_whole(number, 0, count - 1):
        raise InvalidNumber("the number is not an integer from 0 to the count minus 1")
