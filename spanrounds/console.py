"""A console: commands in words that open, change and ask a live row."""

from spanrounds.counting import spans_number
from spanrounds.errors import InvalidCommand
from spanrounds.forests import to_brackets
from spanrounds.live import LiveRow
from spanrounds.orders import count_orders
from spanrounds.reading import relation
from spanrounds.rows import row_after
from spanrounds.settling import final_row, meeting, rounds_needed
from spanrounds.texts import is_natural, is_number, read_row, show_row


def say_play(live, rounds):
    """Play so many rounds, and return the text of the new row."""
    return show_row(live.play(rounds=rounds))


def say_put(live, place, entry):
    """Insert an entry."""
    live.put(place, entry)
    return "ok"


def say_take(live, place):
    """Remove an entry, and return it."""
    return str(live.take(place))


def say_change(live, place, entry):
    """Replace an entry, and return the old one."""
    return str(live.change(place, entry))


def say_undo(live):
    """Revert the last operation."""
    live.undo()
    return "ok"


def say_show(live):
    """Return the text of the row."""
    return show_row(live.row)


def say_spans(live):
    """Return the text of the row after one round."""
    return show_row(live.spans)


def say_after(live, rounds):
    """Return the text of the row after so many rounds."""
    return show_row(row_after(live.row, rounds=rounds))


def say_final(live):
    """Return the text of the final row."""
    return show_row(final_row(live.row))


def say_needed(live):
    """Return how many rounds the row needs."""
    return str(rounds_needed(live.row))


def say_brackets(live):
    """Return the brackets of the spans."""
    return to_brackets(live.spans)


def say_number(live):
    """Return the number of the spans."""
    return str(spans_number(live.spans))


def say_orders(live):
    """Return the number of orders with the spans."""
    return str(count_orders(live.spans))


def say_relation(live, place, other):
    """Return the relation of two places in the spans."""
    return relation(live.spans, place, other)


def say_meet(live, text):
    """Return after how many rounds the row and the row of a text have become equal."""
    rounds = meeting(live.row, read_row(text))
    return "none" if rounds is None else str(rounds)


# What each command but row does with the live row, and with the values of its words.
ANSWERS = {
    "play": say_play,
    "put": say_put,
    "take": say_take,
    "change": say_change,
    "undo": say_undo,
    "show": say_show,
    "spans": say_spans,
    "after": say_after,
    "final": say_final,
    "needed": say_needed,
    "brackets": say_brackets,
    "number": say_number,
    "orders": say_orders,
    "relation": say_relation,
    "meet": say_meet,
}

# The words that stand behind the first one: P for a place, N for a number of rounds, E for an entry.
WORDS = {
    "play": "N",
    "put": "PE",
    "take": "P",
    "change": "PE",
    "undo": "",
    "show": "",
    "spans": "",
    "after": "N",
    "final": "",
    "needed": "",
    "brackets": "",
    "number": "",
    "orders": "",
    "relation": "PP",
}

# These have a text behind the first word instead.
WITH_TEXT = ("row", "meet")


def split_command(command):
    """Return the first word of a command and the tuple of the values behind it."""
    if not isinstance(command, str) or "\n" in command:
        raise InvalidCommand("the command is not a string without newlines")
    word, space, rest = command.partition(" ")
    if word in WITH_TEXT and space:
        return word, (rest,)
    words = rest.split(" ") if space else []
    if word not in WORDS or not are_words(words, WORDS[word]):
        raise InvalidCommand("the command has none of the forms")
    return word, tuple([int(number) for number in words])


def are_words(words, kinds):
    """Tell whether the words are of these kinds, as many as there are."""
    if len(words) != len(kinds):
        return False
    return all([is_number(word) if kind == "E" else is_natural(word) for word, kind in zip(words, kinds)])


class Console:
    """A live row, at first none, and the commands about it."""

    def __init__(self):
        self._live = None

    def say(self, command):
        """Execute a command, and return the answer."""
        word, values = split_command(command)
        if word == "row":
            return self._begin(*values)
        if self._live is None:
            raise InvalidCommand("the command needs a live row, and there is none")
        answer = ANSWERS[word]
        return answer(self._live, *values)

    def _begin(self, text):
        """Begin a new live row."""
        self._live = LiveRow(read_row(text))
        return "ok"
