"""Commands that several tests use: those of all forms, and values that are no commands."""

import samples
from samples import GREATEST

# Commands that a console with the row 9 7 8 5 6 4 executes, each form at least once.
COMMANDS = [
    "row 9 7 8 5 6 4", "row 0", "row -5 3", "row 1" + "0" * 30, "play 1", "play 2", "play 1" + "0" * 30, "put 0 3",
    "put 6 -3", "put 3 0", "put 1 1" + "0" * 30, "undo", "take 0", "take 5", "change 0 1", "change 5 -1" + "0" * 30,
    "show", "spans", "after 0", "after 1", "after 12", "after 1" + "0" * 30, "final", "needed", "brackets", "number",
    "orders", "relation 1 3", "relation 5 0", "meet 1 1 3 1 2 1", "meet 9 7 8 5 6 4", "meet 1 2 3 4 5 6",
]

WITH_TEXT = ["row", "meet"]
WITHOUT_WORDS = ["undo", "show", "spans", "final", "needed", "brackets", "number", "orders"]
WITH_ONE = ["play", "take", "after"]
WITH_ENTRY = ["put", "change"]

# No P and no N.
NO_NATURALS = [
    "", "00", "01", "001", "007", "-1", "-0", "-", "--1", "+1", "+0", "a", "1a", "a1", "0x1", "1e1", "1_0", "1.0", "1.",
    "1,", ",", "P", "N", "one", "True", "None", "()", "(1)", "'1'", "1\t", "\t1", "1\r", "1\x0b", "1\x00", "\u0661",
    "\u00b2", "\uff11", "1\u00a0", "9" * 32, "1" + "0" * 31, "9" * 200, "1" * 3900, "1" * 5000, "0" * 31, "0" * 32,
]
# No E.
NO_NUMBERS = [word for word in NO_NATURALS if word != "-1"] + [
    "-00", "-01", "-007", "-a", "-1a", "- 1", "-+1", "+-1", "1-", "1-1", "-1.0", "-" + "9" * 32, "-1" + "0" * 31,
    "-" + "0" * 31, "-\u0661", "E",
]


def no_commands():
    """Values of none of the forms."""
    found = [
        None, True, False, 0, 1, -1, GREATEST, b"show", b"row 1", b"", (), ("show",), ("take", 0), ["show"],
        ["row", "1"],
        [], {}, {"show": 1}, samples.nested(20), samples.plain_function,
        "", " ", "  ", "\n", "a", "ok", "none", "help", "rows", "ro", "r", "row", "meet", "row\t1", "row,1", "row1",
        "meet1",
        "row\u00a01", "Row 1", "ROW 1", "Meet 1", "rows 1", "meets 1", " row 1", " meet 1", "  row 1", "live 1", "log",
        "preview", "preview 1", "still 3", "of 1 2", "len", "rounds_needed", "meeting 1", "undo undo", "show show",
        "show; show", "show,spans", "show row", "spans show", "play play", "play N", "put P E", "take P",
        "relation P P",
    ]
    for word in WITHOUT_WORDS:
        behind = [" ", "  ", " 0", " 1", " a", " 1 2", "s1", "x", ".", "\t", "\r", "\x00", "()"]
        found += [word + more for more in behind]
        found += [" " + word, word.upper(), word.title(), word[:-1], word[1:], word + word]
    for word in WITH_ONE:
        found += [word + " " + number for number in NO_NATURALS]
        found += [word, word + "  1", word + " 1 ", " " + word + " 1", word + " 1 1", word + " 1  1", word + "1"]
        found += [word.upper() + " 1", word.title() + " 1", word + "\t1", word + ":1", word + " 1 1 1"]
    for word in WITH_ENTRY + ["relation"]:
        others = NO_NATURALS if word == "relation" else NO_NUMBERS
        found += [word + " " + number + " 1" for number in NO_NATURALS] + [word + " 1 " + number for number in others]
        found += [word, word + " 1", word + "  1 0", word + " 1  0", word + " 1 0 ", " " + word + " 1 0"]
        found += [word + " 1 0 2", word + " 1 0 0 0"]
        found += [word.upper() + " 1 0", word.title() + " 1 0", word + " 1\t0", word + "\t1 0", word + " 1,0"]
    for command in COMMANDS:
        found += [command + "\n", "\n" + command, command[:2] + "\n" + command[2:], command + "\n" + command]
    return found + ["row 1\n2", "row \n", "row 1 2\n", "meet 1\n1 3 1 2 1", "meet \n", "row\n1", "meet\n1", "row \n1"]
