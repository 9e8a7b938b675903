"""Rows that are too long to be written out: they are given in blocks, and played run by run."""

from spanrounds.checks import MOST_ROUNDS, check_place, check_rounds, is_entry, is_int, is_whole
from spanrounds.errors import InvalidBlocks, InvalidEntry

MOST_BLOCKS = 200
GREATEST_COUNT = 10 ** 28


def is_blocks(value):
    """Tell whether any value is blocks."""
    if not isinstance(value, tuple) or not 1 <= len(value) <= MOST_BLOCKS:
        return False
    return all([is_block(block) for block in value])


def is_block(value):
    """Tell whether any value is a tuple of an entry and how often it stands there."""
    if not isinstance(value, tuple) or len(value) != 2:
        return False
    entry, count = value
    return is_entry(entry) and is_whole(count, 1, GREATEST_COUNT)


def check_blocks(blocks):
    """Raise InvalidBlocks unless this is blocks."""
    if not is_blocks(blocks):
        raise InvalidBlocks("the blocks are not a tuple of 1 to 200 tuples of an entry and a count up to 10 ** 28")


def long_after(blocks, *, rounds=1):
    """Return the runs of the long row after so many rounds."""
    check_blocks(blocks)
    check_rounds(rounds)
    return played(blocks, rounds)[0]


def long_entry(blocks, place, *, rounds=1):
    """Return the entry at a place of the long row after so many rounds."""
    check_blocks(blocks)
    check_place(place, sum([count for _, count in blocks]))
    check_rounds(rounds)
    runs = played(blocks, rounds)[0]
    at = 0
    while place >= runs[at][1]:
        place = place - runs[at][1]
        at = at + 1
    return runs[at][0]


def long_count(blocks, entry, *, rounds=1):
    """Return the number of places of the long row that have an entry after so many rounds."""
    check_blocks(blocks)
    # Any integer can be asked for: the entries that result are not bounded by those of the blocks.
    if not is_int(entry):
        raise InvalidEntry("the entry is not an integer")
    check_rounds(rounds)
    return sum([count for present, count in played(blocks, rounds)[0] if present == entry])


def long_needed(blocks):
    """Return the least number of rounds after which the long row does not change any more."""
    check_blocks(blocks)
    return played(blocks, MOST_ROUNDS)[1]


def played(blocks, rounds):
    """Return the runs after so many rounds, and how many of these rounds changed something."""
    runs = runs_of(blocks)
    changing = 0
    # The rounds that change something are few for any long row: their number grows like that of its digits.
    while changing < rounds:
        following = runs_after_round(runs)
        if following == runs:
            break
        runs = following
        changing = changing + 1
    return runs, changing


def runs_of(blocks):
    """Return the tuple of the longest stretches of equal entries."""
    runs = []
    for entry, count in blocks:
        if runs and runs[-1][0] == entry:
            runs[-1] = (entry, runs[-1][1] + count)
        else:
            runs.append((entry, count))
    return tuple(runs)


def runs_after_round(runs):
    """Return the runs after one round."""
    spans = []
    # The runs that can still hinder: their entries, falling, and the numbers of places up to their ends.
    hinderers = []
    places = 0
    for entry, count in runs:
        while hinderers and hinderers[-1][0] < entry:
            hinderers.pop()
        front = hinderers[-1][1] if hinderers else 0
        spans.append((places - front + 1, 1))
        # All but the first entry of a run are hindered by the equal one in front.
        if count > 1:
            spans.append((1, count - 1))
        places = places + count
        hinderers.append((entry, places))
    return runs_of(spans)
