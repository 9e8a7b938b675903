"""What DOC.md says of the console in section 14, with a plain list for the live row, to compare the program with."""

import re

import reference
import reference_numbers
from reference_live import Model
from samples import GREATEST

NATURAL = "(0|[1-9][0-9]{0,30})"
NUMBER = "(0|-?[1-9][0-9]{0,30})"

FORMS = {
    "play": [NATURAL], "put": [NATURAL, NUMBER], "undo": [], "take": [NATURAL], "change": [NATURAL, NUMBER],
    "show": [], "spans": [], "after": [NATURAL], "final": [], "needed": [], "brackets": [], "number": [], "orders": [],
    "relation": [NATURAL, NATURAL],
}


def parts_of(command):
    """The first word and the values of a command of one of the forms, or None."""
    if not isinstance(command, str) or "\n" in command:
        return None
    for word in ["row", "meet"]:
        if command.startswith(word + " "):
            return word, [command[len(word) + 1:]]
    for word, parts in FORMS.items():
        found = re.fullmatch(" ".join([word] + parts), command)
        if found:
            return word, [int(digits) for digits in found.groups()]
    return None


def row_of_text(text):
    """[15]: the row with this text, or None."""
    if not re.fullmatch(NUMBER + "( " + NUMBER + ")*", text):
        return None
    row = tuple(int(word) for word in text.split(" "))
    return row if len(row) <= 100 and all(-GREATEST <= entry <= GREATEST for entry in row) else None


def text_of(row):
    return " ".join(str(entry) for entry in row)


class Console:
    """It answers with a string, or with the name of an error behind an exclamation mark."""

    def __init__(self):
        self.model = None

    def say(self, command):
        parts = parts_of(command)
        if parts is None or (self.model is None and parts[0] != "row"):
            return "!InvalidCommand"
        word, values = parts
        if word in ["row", "meet"]:
            row = row_of_text(values[0])
            if row is None:
                return "!InvalidText"
            return self.begin(row) if word == "row" else self.meet(row)
        if word == "undo":
            return self.undo()
        if word in ["play", "put", "take", "change"]:
            return self.error_of(word, values) or self.perform(word, values)
        return self.tell(word, values)

    def begin(self, row):
        self.model = Model(row)
        return "ok"

    def meet(self, row):
        if len(row) != len(self.model.entries):
            return "!NotAlike"
        rounds = reference.meeting(tuple(self.model.entries), row)
        return "none" if rounds is None else str(rounds)

    def undo(self):
        if not self.model.operations:
            return "!Nothing"
        self.model.undo()
        return "ok"

    def error_of(self, word, values):
        """The error of an operation, or the empty string."""
        size = len(self.model.entries)
        if word == "play":
            return "" if 1 <= values[0] <= GREATEST else "!InvalidRounds"
        if values[0] >= size + (word == "put") or (word == "take" and size == 1):
            return "!InvalidPlace"
        if word != "take" and abs(values[1]) > GREATEST:
            return "!InvalidEntry"
        return "!Full" if word == "put" and size == 100 else ""

    def perform(self, word, values):
        found = self.model.perform((word, *values))
        return "ok" if word == "put" else text_of(found) if word == "play" else str(found)

    def tell(self, word, values):
        rows = reference.rows_to_still(tuple(self.model.entries))
        spans = reference.after_round(rows[0])
        if word == "after":
            return text_of(rows[min(values[0], len(rows) - 1)]) if values[0] <= GREATEST else "!InvalidRounds"
        if word == "relation":
            one, two = values
            return reference.relations(spans)[one, two] if max(values) < len(spans) and one != two else "!InvalidPlace"
        answers = {
            "show": lambda: text_of(rows[0]),
            "spans": lambda: text_of(spans),
            "final": lambda: text_of(rows[-1]),
            "needed": lambda: str(len(rows) - 1),
            "brackets": lambda: reference.brackets(spans),
            "number": lambda: str(reference_numbers.spans_number(spans)),
            "orders": lambda: str(reference_numbers.count_orders(spans)),
        }
        return answers[word]()
