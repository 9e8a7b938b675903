"""Rows, hinderers, spans and rounds."""

from spanrounds.checks import MOST_ENTRIES, check_place, check_rounds, is_entry
from spanrounds.errors import InvalidRow


def is_row(value):
    """Tell whether any value is a row."""
    if not isinstance(value, tuple) or not 1 <= len(value) <= MOST_ENTRIES:
        return False
    return all([is_entry(entry) for entry in value])


def check_row(row):
    """Raise InvalidRow unless this is a row."""
    if not is_row(row):
        raise InvalidRow("the row is not a tuple of 1 to 100 integers from -10 ** 30 to 10 ** 30")


def all_spans(row):
    """Return the spans of all entries, which is the row after one round."""
    spans = []
    for place, entry in enumerate(row):
        front = place - 1
        # The places that a lesser entry covers hold entries that are less still: skip them with it.
        while front >= 0 and row[front] < entry:
            front = front - spans[front]
        spans.append(place - front)
    return tuple(spans)


def rows_until_still(row):
    """Return the list of the row and the rows after 1, 2, 3 and so on rounds, up to the first still one."""
    rows = [row]
    following = all_spans(row)
    while following != rows[-1]:
        rows.append(following)
        following = all_spans(following)
    return rows


def hinderer(row, place):
    """Return the last place in front whose entry is at least as great, or None."""
    front = place_in_front(row, place)
    return None if front < 0 else front


def span_of(row, place):
    """Return the number of places from behind the hinderer up to the place."""
    return place - place_in_front(row, place)


def place_in_front(row, place):
    """Return the hinderer of a place, or -1, as if one stood in front of the row."""
    check_row(row)
    check_place(place, len(row))
    return place - all_spans(row)[place]


def row_after(row, *, rounds=1):
    """Return the row after so many rounds."""
    check_row(row)
    check_rounds(rounds)
    rows = rows_until_still(row)
    # Rounds beyond the first still row change nothing, however many they are.
    return rows[min(rounds, len(rows) - 1)]


def rows_of(row):
    """Yield the row and the rows after 1, 2, 3 and so on rounds, up to the first still one."""
    check_row(row)
    yield from rows_until_still(row)
