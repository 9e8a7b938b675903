"""When rows stop changing, and what they are then."""

from spanrounds.checks import check_place, check_size
from spanrounds.errors import NotAlike
from spanrounds.rows import all_spans, check_row, rows_until_still


def is_still(row):
    """Tell whether a round does not change the row."""
    check_row(row)
    return all_spans(row) == row


def final_row(row):
    """Return the still row that results from the row."""
    check_row(row)
    return rows_until_still(row)[-1]


def rounds_needed(row):
    """Return the least number of rounds after which the row is still."""
    check_row(row)
    return len(rows_until_still(row)) - 1


def rounds_at(row, place):
    """Return the least number of rounds after which the entry at a place is final and stays so."""
    check_row(row)
    check_place(place, len(row))
    rows = rows_until_still(row)
    rounds = len(rows) - 1
    # From the back, as the first row may hold the final entry and lose it again.
    while rounds > 0 and rows[rounds - 1][place] == rows[-1][place]:
        rounds = rounds - 1
    return rounds


def most_rounds(size):
    """Return the greatest number of rounds that a row with so many entries needs."""
    check_size(size)
    rounds = 0
    fibonacci, following = 1, 2
    while following <= size:
        fibonacci, following = following, fibonacci + following
        rounds = rounds + 1
    # A single entry can differ from its span, 1, although Fibonacci's numbers give no round for it.
    return max(rounds, 1)


def slowest_row(size):
    """Return a row with so many entries that needs the greatest number of rounds."""
    check_size(size)
    row = []
    for number, length in enumerate(slowest_runs(size)):
        # Each run ascends, and is less throughout than the runs in front of it.
        row.extend([step - number * size for step in range(length)])
    return tuple(row)


def slowest_runs(size):
    """Return the lengths, from the front, of the ascending runs of a slowest row."""
    if size == 1:
        return [1]
    # From the second round on, the last entry of this run of two gets over one more run in each round.
    # The run that hinders it then is just as long as the span that it had one round before.
    lengths = [2]
    before, total = 1, 2
    while before + total <= size:
        lengths.insert(0, before)
        before, total = total, before + total
    # Entries at the end do not change what happens in front of them.
    return lengths + [size - total]


def meeting(row, other_row):
    """Return the least number of rounds after which two rows have become equal, or None."""
    check_row(row)
    check_row(other_row)
    if len(row) != len(other_row):
        raise NotAlike("the rows have different lengths")
    rows = rows_until_still(row)
    other_rows = rows_until_still(other_row)
    for rounds in range(max(len(rows), len(other_rows))):
        if rows[min(rounds, len(rows) - 1)] == other_rows[min(rounds, len(other_rows) - 1)]:
            return rounds
    return None
