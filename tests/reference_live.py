"""A plain list that goes the way of a live row of section 12, to compare the program with."""

import reference
from samples import GREATEST


class Model:
    """A list of entries, the operations on it, and all lists before them."""

    def __init__(self, row):
        self.entries = list(row)
        self.operations = []
        self.before = []

    def perform(self, operation):
        """Change the list and return what the method of the same name returns."""
        self.before.append(list(self.entries))
        self.operations.append(operation)
        word, first = operation[:2]
        if word == "play":
            rows = reference.rows_to_still(tuple(self.entries))
            self.entries = list(rows[min(first, len(rows) - 1)])
            return tuple(self.entries)
        if word == "put":
            self.entries.insert(first, operation[2])
            return None
        if word == "take":
            return self.entries.pop(first)
        old = self.entries[first]
        self.entries[first] = operation[2]
        return old

    def undo(self):
        self.entries = self.before.pop()
        self.operations.pop()


def perform(live, operation):
    """Call the method that an operation of a log stands for."""
    if operation[0] == "play":
        return live.play(rounds=operation[1])
    return getattr(live, operation[0])(*operation[1:])


def some_operation(chance, size):
    """An operation that a live row with so many entries can perform."""
    most = chance.choice([1, 3, 20, GREATEST])
    entry = chance.randint(-most, most)
    words = ["change"] + ["put"] * 2 * (size < 100) + ["take"] * (size > 1) + ["play"] * (chance.randrange(3) == 0)
    word = chance.choice(words)
    if word == "play":
        return ("play", chance.choice([1, 1, 2, 3, 7, GREATEST - 1, GREATEST]))
    if word == "put":
        return ("put", chance.choice([0, size, chance.randint(0, size)]), entry)
    place = chance.choice([0, size - 1, chance.randrange(size)])
    return ("take", place) if word == "take" else ("change", place, entry)
