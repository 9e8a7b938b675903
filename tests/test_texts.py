"""Section 13 and point [15]: rows as texts."""

import itertools
import random
import re
import unittest

import samples
from samples import GREATEST
from spanrounds.errors import InvalidRow, InvalidText
from spanrounds.texts import read_row, show_row


def all_rows():
    rows = samples.long_rows() + samples.long_span_rows() + list(samples.small_rows(3))
    for entry in [0, 1, -1, 9, 10, -10, 100, 10 ** 15, GREATEST - 1, GREATEST, 1 - GREATEST, -GREATEST]:
        rows += [(entry,), (entry,) * 2, (entry,) * 100, (3, entry), (entry, -3)]
    return rows


class BothWays(unittest.TestCase):
    def test_rows_of_all_kinds(self):
        for row in all_rows():
            text = ""
            for entry in row:
                text += " " * (text != "") + format(entry, "d")
            self.assertEqual(show_row(row), text)
            self.assertEqual(read_row(text), row)

    def test_written_out(self):
        for row, text in [
            ((0,), "0"), ((-1,), "-1"), ((10,), "10"), ((0, 0), "0 0"), ((3, -5, 3), "3 -5 3"),
            ((-10, 0, 10), "-10 0 10"),
            ((1,) * 100, "1" + " 1" * 99), ((GREATEST, -GREATEST), "1" + "0" * 30 + " -1" + "0" * 30),
            ((GREATEST - 1, 1 - GREATEST), "9" * 30 + " -" + "9" * 30),
        ]:
            self.assertEqual([show_row(row), read_row(text)], [text, row])

    def test_kinds(self):
        for row in all_rows():
            self.assertIs(type(show_row(row)), str)
            self.assertIs(type(read_row(show_row(row))), tuple)
            self.assertTrue(all(type(entry) is int for entry in read_row(show_row(row))))

    def test_all_short_texts(self):
        """All texts of up to five of these signs are read exactly if they are written as [15] says."""
        number = "(0|-?[1-9][0-9]*)"
        for many in range(6):
            for signs in itertools.product("012- ", repeat=many):
                text = "".join(signs)
                if re.fullmatch(number + "( " + number + ")*", text):
                    self.assertEqual(read_row(text), tuple(int(word) for word in text.split()))
                else:
                    self.assertRaises(InvalidText, read_row, text)


class Errors(unittest.TestCase):
    def check_error(self, error, function, value):
        with self.assertRaises(ValueError, msg=value) as caught:
            function(value)
        self.assertIs(type(caught.exception), error, value)

    def test_no_texts(self):
        for value in samples.NO_TEXTS:
            self.check_error(InvalidText, read_row, value)

    def test_no_rows(self):
        for value in samples.NO_ROWS:
            self.check_error(InvalidRow, show_row, value)

    def test_100_entries_and_no_more(self):
        for many in [1, 2, 99, 100]:
            self.assertEqual(read_row(" ".join(["-7"] * many)), (-7,) * many)
        for many in [101, 102, 200, 1000]:
            self.check_error(InvalidText, read_row, " ".join(["-7"] * many))

    def test_entries_at_the_limits(self):
        for entry in [GREATEST, -GREATEST, GREATEST - 1]:
            for text, row in [(str(entry), (entry,)), ("7 " + str(entry), (7, entry)), (str(entry) + " 7", (entry, 7))]:
                self.assertEqual(read_row(text), row)
        for entry in [GREATEST + 1, -GREATEST - 1, 10 ** 31, 10 ** 199]:
            for text in [str(entry), "7 " + str(entry), str(entry) + " 7"]:
                self.check_error(InvalidText, read_row, text)

    def test_one_sign_too_many_anywhere(self):
        text = show_row((9, -7, 10, 0))
        for at in range(len(text) + 1):
            for sign in "+,.;_a\n\t\r(%":
                self.check_error(InvalidText, read_row, text[:at] + sign + text[at:])

    def test_one_space_too_many_anywhere(self):
        text = show_row((9, -7, 0))
        for at in range(len(text) + 1):
            # No word has two digits, so that no space makes two words of one.
            self.check_error(InvalidText, read_row, text[:at] + " " + text[at:])

    def test_leading_zeros(self):
        for row in [(0,), (7,), (-7,), (10, 20), (GREATEST,)]:
            words = show_row(row).split(" ")
            for at in range(len(words)):
                for zeros in ["0", "00"]:
                    sign, digits = ("-", words[at][1:]) if words[at][0] == "-" else ("", words[at])
                    changed = words[:at] + [sign + zeros + digits] + words[at + 1:]
                    self.check_error(InvalidText, read_row, " ".join(changed))

    def test_random_rows_and_back(self):
        chance = random.Random(15)
        for _ in range(300):
            most = 10 ** chance.randint(0, 30)
            row = tuple(chance.randint(-most, most) for _ in range(chance.randint(1, 100)))
            self.assertEqual(read_row(show_row(row)), row)

    def test_equal_texts_give_equal_rows(self):
        for row in all_rows():
            text = show_row(row)
            self.assertEqual([read_row(text), show_row(row)], [read_row("" + text), text])


if __name__ == "__main__":
    unittest.main()
