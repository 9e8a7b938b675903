"""Section 14: the console, against a plain list, and against the functions that it calls."""

import itertools
import random
import unittest

import reference_console
import samples
import samples_console
from samples import GREATEST
from samples_console import COMMANDS
from spanrounds import errors
from spanrounds.console import Console
from spanrounds.counting import spans_number
from spanrounds.forests import to_brackets
from spanrounds.live import LiveRow
from spanrounds.orders import count_orders
from spanrounds.reading import relation
from spanrounds.rows import row_after
from spanrounds.settling import final_row, meeting, rounds_needed
from spanrounds.texts import read_row, show_row

ROW = "row 9 7 8 5 6 4"
NEED_A_ROW = [command for command in COMMANDS if not command.startswith("row")]
ASKING = [command for command in NEED_A_ROW if command.split()[0] not in ["play", "put", "take", "change", "undo"]]


def said(console, command):
    """The answer, or the name of the error behind an exclamation mark."""
    try:
        return console.say(command)
    except errors.SpanError as error:
        return "!" + type(error).__name__


def opened(*commands):
    console = Console()
    for command in commands:
        console.say(command)
    return console


class ConsoleCase(unittest.TestCase):
    def check_same(self, commands):
        """Say the same to the console and to the plain one, and compare the answers and the rows."""
        console, other = Console(), reference_console.Console()
        for command in commands:
            found = said(console, command)
            self.assertIs(type(found), str, command)
            self.assertEqual(found, other.say(command), command)
            self.assertEqual(said(console, "show"), other.say("show"), command)
        self.check_undo(console, other)

    def check_undo(self, console, other):
        """Undo all that can be undone, which shows the operations that the console holds."""
        while other.model and other.model.operations:
            self.assertEqual([console.say("undo"), other.say("undo")], ["ok", "ok"])
            self.assertEqual(console.say("show"), other.say("show"))
        self.assertEqual(said(console, "undo"), other.say("undo"))

    def check_error(self, name, commands, command):
        """The error is raised, and the live row and its operations are as before."""
        console, other = Console(), reference_console.Console()
        for earlier in commands:
            self.assertEqual(console.say(earlier), other.say(earlier), earlier)
        with self.assertRaises(errors.SpanError, msg=(commands, command)) as caught:
            console.say(command)
        self.assertIs(type(caught.exception), getattr(errors, name), (commands, command))
        self.assertEqual(said(console, "show"), other.say("show"))
        self.check_undo(console, other)


class Commands(ConsoleCase):
    def test_each_one(self):
        for command in COMMANDS:
            self.check_same([ROW, "take 1", "undo", command])
            self.check_same([ROW, "change 0 9", command])

    def test_each_one_behind_each_other_one(self):
        for one, two in itertools.product(COMMANDS, repeat=2):
            self.check_same([ROW, one, two])

    def test_answers_written_out(self):
        console = Console()
        for command, answer in [
            ("row 4 2 3", "ok"), ("show", "4 2 3"), ("spans", "1 1 2"), ("needed", "2"), ("play 1", "1 1 2"),
            ("needed", "1"), ("spans", "1 1 3"), ("undo", "ok"), ("show", "4 2 3"), ("put 3 -7", "ok"),
            ("show", "4 2 3 -7"), ("take 1", "2"), ("show", "4 3 -7"), ("change 2 8", "-7"), ("show", "4 3 8"),
            ("spans", "1 1 3"), ("brackets", "(()())"), ("number", "2"), ("orders", "1"), ("relation 0 2", "<"),
            ("relation 2 0", ">"), ("relation 0 1", ">="), ("relation 1 0", "<="), ("after 0", "4 3 8"),
            ("after 1", "1 1 3"), ("after 1" + "0" * 30, "1 1 3"), ("final", "1 1 3"), ("meet 1 1 3", "1"),
            ("meet 4 3 8", "0"), ("meet 1 2 3", "none"), ("play 1" + "0" * 30, "1 1 3"), ("undo", "ok"),
            ("show", "4 3 8"), ("row -5", "ok"), ("show", "-5"), ("final", "1"), ("brackets", "()"), ("orders", "1"),
            ("number", "0"), ("needed", "1"), ("meet 7", "1"), ("meet -5", "0"),
        ]:
            self.assertEqual(console.say(command), answer, command)

    def test_random_commands(self):
        for seed in range(60):
            chance, commands = random.Random(seed), [ROW]
            for _ in range(25):
                place, other, rounds = [str(chance.randrange(8)) for _ in range(3)]
                entry = str(chance.randint(-3, 9))
                row = " ".join(str(chance.randrange(4)) for _ in range(chance.randint(5, 7)))
                commands.append(chance.choice([
                    "play " + rounds, "put " + place + " " + entry, "take " + place, "change " + place + " " + entry,
                    "undo", "undo", "show", "spans", "after " + rounds, "final", "needed", "brackets", "number",
                    "orders",
                    "relation " + place + " " + other, "meet " + row, chance.choice(["row " + row, "row", "row ",
                    "show "]),
                ]))
            self.check_same(commands)

    def test_texts_with_many_entries_and_long_numbers(self):
        for row in samples.long_rows():
            text = show_row(row)
            console = opened("row " + text)
            self.assertEqual(console.say("show"), text)
            self.assertEqual(console.say("meet " + text), "0")
            if len(row) > 1:
                self.assertEqual(console.say("take 0"), str(row[0]))
                self.assertEqual(console.say("put 0 " + str(row[0])), "ok")
            self.assertEqual(console.say("change " + str(len(row) - 1) + " " + str(row[0])), str(row[-1]))
            self.assertEqual(console.say("show"), show_row(row[:-1] + row[:1]))

    def test_kinds_of_answers(self):
        for command in COMMANDS:
            console = opened(ROW, "take 0", "put 0 9")
            self.assertIs(type(console.say(command)), str)


class AsTheFunctions(ConsoleCase):
    """Answers are those of the functions for the present row, whatever operations led to it."""

    def check(self, console, row):
        spans = row_after(row)
        self.assertEqual(console.say("show"), show_row(row))
        self.assertEqual(console.say("spans"), show_row(spans))
        self.assertEqual(console.say("final"), show_row(final_row(row)))
        self.assertEqual(console.say("needed"), str(rounds_needed(row)))
        self.assertEqual(console.say("brackets"), to_brackets(spans))
        self.assertEqual(console.say("number"), str(spans_number(spans)))
        self.assertEqual(console.say("orders"), str(count_orders(spans)))
        for rounds in [0, 1, 2, 5, GREATEST]:
            self.assertEqual(console.say("after " + str(rounds)), show_row(row_after(row, rounds=rounds)))
        for place, other in itertools.permutations({0, len(row) // 2, len(row) - 1}, 2):
            self.assertEqual(console.say(f"relation {place} {other}"), relation(spans, place, other))
        for other_row in [row, spans, final_row(row), (1,) * len(row), tuple(range(len(row)))]:
            rounds = meeting(row, other_row)
            self.assertEqual(console.say("meet " + show_row(other_row)), "none" if rounds is None else str(rounds))

    def test_rows_of_all_kinds(self):
        for row in samples.long_rows() + samples.long_span_rows()[::4]:
            self.check(opened("row " + show_row(row)), row)

    def test_the_present_row_after_operations(self):
        for seed, row in enumerate(samples.long_rows()[::6]):
            chance, console, live = random.Random(seed), opened("row " + show_row(row)), LiveRow(row)
            for _ in range(8):
                place, entry = chance.randrange(len(live)), chance.randint(-9, 9)
                word = chance.choice(["play", "put", "take", "change", "undo"])
                if word == "play":
                    self.assertEqual(console.say("play 1"), show_row(live.play()))
                elif word == "put" and len(live) < 100:
                    self.assertEqual([console.say(f"put {place} {entry}"), live.put(place, entry)], ["ok", None])
                elif word == "take" and len(live) > 1:
                    self.assertEqual(console.say(f"take {place}"), str(live.take(place)))
                elif word == "change":
                    self.assertEqual(console.say(f"change {place} {entry}"), str(live.change(place, entry)))
                elif word == "undo" and live.log():
                    self.assertEqual([console.say("undo"), live.undo()], ["ok", None])
                self.check(console, live.row)


class Errors(ConsoleCase):
    def test_no_commands(self):
        for value in samples_console.no_commands():
            self.assertEqual(reference_console.parts_of(value), None, value)
            self.check_error("InvalidCommand", [ROW, "take 0"], value)

    def test_no_commands_without_a_live_row(self):
        for value in samples_console.no_commands():
            self.check_error("InvalidCommand", [], value)

    def test_all_commands_but_row_need_a_live_row(self):
        failing = ["meet ", "meet a", "meet 1 ", "play 0", "take 99", "relation 1 1", "put 9 " + "9" * 31]
        for command in NEED_A_ROW + failing:
            self.check_error("InvalidCommand", [], command)
            console = Console()
            self.assertEqual(said(console, command), "!InvalidCommand")
            self.assertEqual(said(console, "row "), "!InvalidText")
            self.assertEqual(said(console, command), "!InvalidCommand")
            self.assertEqual(console.say(ROW), "ok")
            self.assertNotEqual(said(console, command), "!InvalidCommand")

    def test_texts_of_row(self):
        for text in samples.NO_TEXTS:
            if isinstance(text, str):
                name = "InvalidCommand" if "\n" in text else "InvalidText"
                self.check_error(name, [], "row " + text)
                self.check_error(name, [ROW, "take 0"], "row " + text)

    def test_texts_of_meet(self):
        for text in samples.NO_TEXTS:
            if isinstance(text, str):
                self.check_error("InvalidCommand" if "\n" in text else "InvalidText", [ROW, "take 0"], "meet " + text)

    def test_a_text_that_is_empty(self):
        for command in ["row ", "meet "]:
            self.check_error("InvalidText", [ROW], command)
        for command in ["row", "meet"]:
            self.check_error("InvalidCommand", [ROW], command)

    def test_meet_with_another_length(self):
        for text in ["1", "1 1 3 1 2", "1 1 3 1 2 1 1", " ".join("1" * 100)]:
            self.check_error("NotAlike", [ROW], "meet " + text)
        self.check_error("NotAlike", [ROW, "take 0"], "meet 9 7 8 5 6 4")

    def test_rounds(self):
        for digits in ["0", "1" + "0" * 29 + "1", "2" + "0" * 30, "9" * 31]:
            self.check_error("InvalidRounds", [ROW, "take 0"], "play " + digits)
        for digits in ["1" + "0" * 29 + "1", "2" + "0" * 30, "9" * 31]:
            self.check_error("InvalidRounds", [ROW, "take 0"], "after " + digits)
        console = opened(ROW)
        self.assertEqual(console.say("after 0"), "9 7 8 5 6 4")
        self.assertEqual(console.say("after 1" + "0" * 30), "1 1 3 1 2 1")

    def test_places(self):
        for place in ["6", "7", "100", "9" * 31]:
            for command in ["take {}", "change {} 1", "relation {} 0", "relation 0 {}"]:
                self.check_error("InvalidPlace", [ROW, "change 0 9"], command.format(place))
            self.check_error("InvalidPlace", [ROW, "change 0 9"], "change " + place + " " + "9" * 31)
            self.check_error("InvalidPlace", [ROW, "change 0 9"], "relation " + place + " " + place)
        for place in ["7", "8", "100", "9" * 31]:
            for entry in ["1", "9" * 31]:
                self.check_error("InvalidPlace", [ROW, "change 0 9"], "put " + place + " " + entry)
        for place in range(6):
            self.check_error("InvalidPlace", [ROW], f"relation {place} {place}")
        self.check_error("InvalidPlace", ["row 5"], "take 0")
        self.check_error("InvalidPlace", ["row 5 4", "take 1"], "take 0")

    def test_entries(self):
        for entry in ["1" + "0" * 29 + "1", "9" * 31, "-1" + "0" * 29 + "1", "-" + "9" * 31]:
            for command in ["put 0 " + entry, "put 6 " + entry, "change 0 " + entry, "change 5 " + entry]:
                self.check_error("InvalidEntry", [ROW, "take 0", "undo"], command)

    def test_full(self):
        row = "row " + " ".join("5" * 100)
        for place in ["0", "50", "100"]:
            self.check_error("Full", [row], "put " + place + " 1")
            self.check_error("InvalidEntry", [row], "put " + place + " " + "9" * 31)
        self.check_error("InvalidPlace", [row], "put 101 1")
        self.check_error("Full", ["row " + " ".join("5" * 99), "put 99 4"], "put 0 1")

    def test_nothing(self):
        self.check_error("Nothing", [ROW], "undo")
        self.check_error("Nothing", [ROW, "take 0", "undo"], "undo")
        self.check_error("Nothing", [ROW, "take 0", "row 1 2"], "undo")

    def test_each_sign_put_in_or_left_out(self):
        """All commands that differ from one in a sign: executed exactly if they have one of the forms."""
        for command in COMMANDS:
            changed = [command[:at] + command[at + 1:] for at in range(len(command))]
            for sign in " 0-+a\n":
                changed += [command[:at] + sign + command[at:] for at in range(len(command) + 1)]
            for value in changed:
                console, other = opened(ROW, "change 0 9"), reference_console.Console()
                other.say(ROW)
                other.say("change 0 9")
                self.assertEqual(said(console, value), other.say(value), value)
                self.assertEqual(console.say("show"), other.say("show"), value)

    def test_31_digits_and_no_more(self):
        for word in ["play", "take", "after"]:
            self.assertNotEqual(said(opened(ROW), word + " " + "8" * 31), "!InvalidCommand")
            self.check_error("InvalidCommand", [ROW], word + " " + "8" * 32)
        for front, back in [("put ", " 1"), ("put 0 ", ""), ("put 0 -", ""), ("change ", " 1"), ("change 0 ", ""),
                            ("change 0 -", ""), ("relation ", " 1"), ("relation 1 ", "")]:
            self.assertNotEqual(said(opened(ROW), front + "8" * 31 + back), "!InvalidCommand")
            self.check_error("InvalidCommand", [ROW], front + "8" * 32 + back)


class States(ConsoleCase):
    def test_a_new_row_begins_with_an_empty_log(self):
        console = opened(ROW, "play 1", "take 0", "row 5 4")
        self.assertEqual([said(console, "undo"), console.say("show")], ["!Nothing", "5 4"])
        console.say("take 0")
        self.assertEqual([console.say("undo"), console.say("show")], ["ok", "5 4"])
        self.assertEqual(said(console, "undo"), "!Nothing")

    def test_the_same_row_again_begins_with_an_empty_log(self):
        console = opened(ROW, "change 0 1", ROW)
        self.assertEqual([said(console, "undo"), console.say("show")], ["!Nothing", "9 7 8 5 6 4"])

    def test_a_row_that_is_not_valid_keeps_the_old_one(self):
        for text in ["", " ", "a", "1 ", "01", str(GREATEST + 1), " ".join("1" * 101)]:
            console = opened(ROW, "play 1")
            self.assertEqual(said(console, "row " + text), "!InvalidText")
            self.assertEqual([console.say("show"), console.say("undo")], ["1 1 2 1 2 1", "ok"])
            self.assertEqual([console.say("show"), said(console, "undo")], ["9 7 8 5 6 4", "!Nothing"])

    def test_undo_back_to_the_row_that_was_opened(self):
        console = opened(ROW)
        shown = []
        for command in ["put 6 1", "play 2", "take 3", "change 0 -5", "play 1" + "0" * 30, "put 0 0"]:
            shown.append(console.say("show"))
            console.say(command)
        for expected in reversed(shown):
            self.assertEqual([console.say("undo"), console.say("show")], ["ok", expected])
        self.assertEqual([said(console, "undo"), console.say("show")], ["!Nothing", "9 7 8 5 6 4"])

    def test_commands_that_ask_are_no_operations(self):
        console = opened(ROW, "change 0 8")
        for command in ASKING:
            console.say(command)
        self.assertEqual([console.say("undo"), console.say("show")], ["ok", "9 7 8 5 6 4"])
        self.assertEqual(said(console, "undo"), "!Nothing")

    def test_asking_changes_nothing(self):
        console = opened(ROW, "change 0 8")
        before = [console.say(command) for command in ASKING]
        self.assertEqual([console.say(command) for command in ASKING], before)
        self.assertEqual([console.say(command) for command in ASKING[::-1]], before[::-1])

    def test_two_consoles_know_nothing_of_each_other(self):
        one, two = Console(), Console()
        one.say(ROW)
        self.assertEqual(said(two, "show"), "!InvalidCommand")
        two.say("row 4 2 3")
        one.say("take 0")
        two.say("play 1")
        self.assertEqual([one.say("show"), two.say("show")], ["7 8 5 6 4", "1 1 2"])
        self.assertEqual([two.say("undo"), said(two, "undo")], ["ok", "!Nothing"])
        self.assertEqual([one.say("show"), two.say("show")], ["7 8 5 6 4", "4 2 3"])
        self.assertEqual([one.say("undo"), one.say("show")], ["ok", "9 7 8 5 6 4"])
        self.assertEqual(said(Console(), "show"), "!InvalidCommand")

    def test_equal_commands_to_two_consoles(self):
        one, two = Console(), Console()
        for command in [ROW] + COMMANDS + COMMANDS[::-1]:
            self.assertEqual(said(one, command), said(two, command), command)

    def test_200_operations(self):
        commands = ["row 5"]
        for number in range(100):
            commands.append("put 0 " + str(number) if number % 3 else "change 0 " + str(number))
        self.check_same(commands)

    def test_a_row_from_an_answer(self):
        for command in ["show", "spans", "final", "after 1", "play 1"]:
            console = opened(ROW)
            answer = console.say(command)
            self.assertEqual(console.say("row " + answer), "ok")
            self.assertEqual([console.say("show"), read_row(answer)], [answer, read_row(console.say("show"))])


if __name__ == "__main__":
    unittest.main()
