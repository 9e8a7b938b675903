"""Rows that are changed by operations, which can be undone."""

from spanrounds.checks import check_entry, check_place, check_rounds
from spanrounds.counting import nth_still
from spanrounds.errors import Full, InvalidOperation, InvalidPlace, Nothing
from spanrounds.rows import all_spans, check_row, row_after
from spanrounds.settling import is_still


def row_played(row, rounds):
    """Return the row after so many rounds, at least one."""
    check_rounds(rounds, 1)
    return row_after(row, rounds=rounds)


def row_with(row, place, entry):
    """Return the row with one more entry, which has this place."""
    # The new entry may stand behind all others, too.
    check_place(place, len(row) + 1)
    check_entry(entry)
    if len(row) >= LiveRow.LIMIT:
        raise Full("there is no room for another entry")
    return row[:place] + (entry,) + row[place:]


def row_without(row, place):
    """Return the row without the entry at a place."""
    check_place(place, len(row))
    if len(row) == 1:
        raise InvalidPlace("the only entry can't be taken")
    return row[:place] + row[place + 1:]


def row_changed(row, place, entry):
    """Return the row with another entry at a place."""
    check_place(place, len(row))
    check_entry(entry)
    return row[:place] + (entry,) + row[place + 1:]


# What each operation of a log makes of a row, and how many items its tuple has.
ACTIONS = {"play": row_played, "put": row_with, "take": row_without, "change": row_changed}
ITEMS = {"play": 2, "put": 3, "take": 2, "change": 3}


def is_operation(value):
    """Tell whether any value has the form of an operation, whatever its items behind the first one are."""
    if not isinstance(value, tuple) or not value or not isinstance(value[0], str):
        return False
    return value[0] in ITEMS and ITEMS[value[0]] == len(value)


def row_by(row, operation):
    """Return the row after an operation."""
    action = ACTIONS[operation[0]]
    values = operation[1:]
    return action(row, *values)


class LiveRow:
    """A row, and the operations that made it what it is."""

    LIMIT = 100

    def __init__(self, row):
        check_row(row)
        self._row = row
        # Each operation that is not undone, with the row as it was before.
        self._past = []

    @classmethod
    def of(cls, *entries):
        """Create a live row of the arguments."""
        return cls(entries)

    @classmethod
    def still(cls, size, *, number=0):
        """Create a live row of the still row that has a number."""
        return cls(nth_still(size, number))

    @property
    def row(self):
        """The present row."""
        return self._row

    @property
    def spans(self):
        """The row after one round."""
        return all_spans(self._row)

    @property
    def stands(self):
        """Whether the present row is still."""
        return is_still(self._row)

    def play(self, *, rounds=1):
        """Play so many rounds, and return the new row."""
        self._apply(("play", rounds))
        return self._row

    def put(self, place, entry):
        """Insert an entry, which then has this place."""
        self._apply(("put", place, entry))

    def take(self, place):
        """Remove the entry at a place, and return it."""
        before = self._row
        self._apply(("take", place))
        return before[place]

    def change(self, place, entry):
        """Replace the entry at a place, and return the old one."""
        before = self._row
        self._apply(("change", place, entry))
        return before[place]

    def _apply(self, operation):
        """Change the row by an operation, and note it; an operation that raises an error changes nothing."""
        row = row_by(self._row, operation)
        self._past.append((operation, self._row))
        self._row = row

    def undo(self):
        """Revert the last operation that is not undone."""
        if not self._past:
            raise Nothing("there is no operation to undo")
        _, before = self._past.pop()
        self._row = before

    def log(self):
        """Return the list of the operations that are not undone."""
        return [operation for operation, _ in self._past]

    def preview(self, *operations):
        """Return the row after operations, without performing them on the live row."""
        if not all([is_operation(operation) for operation in operations]):
            raise InvalidOperation("an operation is not a tuple of one of the forms of a log")
        row = self._row
        for operation in operations:
            row = row_by(row, operation)
        return row

    def __len__(self):
        return len(self._row)

    def __eq__(self, other):
        return isinstance(other, LiveRow) and self._row == other._row
