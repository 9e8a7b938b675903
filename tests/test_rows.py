"""Section 4 and points [5] and [6]: rows, hinderers, spans and rounds."""

import unittest

import reference
import samples
from samples import GREATEST
from spanrounds.errors import InvalidRow
from spanrounds.rows import hinderer, is_row, row_after, rows_of, span_of


class IsRow(unittest.TestCase):
    def test_lengths(self):
        for length in [1, 2, 3, 99, 100]:
            self.assertIs(is_row((7,) * length), True, length)
        for length in [0, 101, 102, 200]:
            self.assertIs(is_row((7,) * length), False, length)

    def test_greatest_and_least_entries(self):
        for entry in [0, 1, -1, GREATEST, -GREATEST, GREATEST - 1, 1 - GREATEST]:
            self.assertIs(is_row((entry,)), True, entry)
            self.assertIs(is_row((3,) * 99 + (entry,)), True, entry)
        for entry in [GREATEST + 1, -GREATEST - 1, 10 ** 199, -10 ** 199]:
            self.assertIs(is_row((entry,)), False, entry)
            self.assertIs(is_row((entry, 3)), False, entry)
            self.assertIs(is_row((3,) * 99 + (entry,)), False, entry)

    def test_bools_are_no_entries_at_any_place(self):
        for length in [1, 2, 99, 100]:
            for place in {0, length // 2, length - 1}:
                for entry in [True, False]:
                    row = [1] * length
                    row[place] = entry
                    self.assertIs(is_row(tuple(row)), False, (length, place, entry))

    def test_other_kinds(self):
        for value in samples.NO_ROWS:
            self.assertIs(is_row(value), False, value)

    def test_long_rows(self):
        for row in samples.long_rows():
            self.assertIs(is_row(row), True, row)


class Spans(unittest.TestCase):
    def check(self, row):
        for place in range(len(row)):
            self.assertEqual(hinderer(row, place), reference.hinderer(row, place), (row, place))
            self.assertEqual(span_of(row, place), reference.span(row, place), (row, place))

    def test_small_rows(self):
        for size in [1, 2, 3, 4]:
            for row in samples.small_rows(size):
                self.check(row)

    def test_long_rows(self):
        for row in samples.long_rows():
            self.check(row)

    def test_equal_entries_hinder(self):
        self.assertEqual([hinderer((3, 3, 3), place) for place in range(3)], [None, 0, 1])
        self.assertEqual([span_of((3, 3, 3), place) for place in range(3)], [1, 1, 1])
        self.assertEqual(hinderer((4, 2, 1, 4), 3), 0)
        self.assertEqual(span_of((4, 2, 1, 4), 3), 3)

    def test_the_last_hinderer_counts(self):
        self.assertEqual(hinderer((9, 8, 7, 1, 6), 4), 2)
        self.assertEqual(hinderer((7, 8, 9, 1, 6), 4), 2)

    def test_none_is_not_place_0(self):
        self.assertIs(hinderer((1, 2), 1), None)
        self.assertEqual(hinderer((2, 1), 1), 0)
        self.assertEqual([span_of((1, 2), 1), span_of((2, 1), 1)], [2, 1])

    def test_100_entries(self):
        ascending = tuple(range(100))
        self.assertIs(hinderer(ascending, 99), None)
        self.assertEqual(span_of(ascending, 99), 100)
        self.assertEqual(hinderer((GREATEST,) + ascending[1:], 99), 0)
        self.assertEqual(span_of((GREATEST,) + ascending[1:], 99), 99)
        self.assertEqual(hinderer((-GREATEST,) * 100, 99), 98)


class RowAfter(unittest.TestCase):
    def test_against_rounds_played_place_by_place(self):
        for size in [1, 2, 3, 4]:
            for row in samples.small_rows(size):
                for rounds in range(5):
                    self.assertEqual(row_after(row, rounds=rounds), reference.after_rounds(row, rounds), row)

    def test_long_rows(self):
        for row in samples.long_rows():
            for rounds in [0, 1, 2, 3, 4, 12]:
                self.assertEqual(row_after(row, rounds=rounds), reference.after_rounds(row, rounds), row)

    def test_one_round_unless_told_otherwise(self):
        for row in samples.long_rows():
            self.assertEqual(row_after(row), reference.after_round(row))

    def test_no_round(self):
        for row in samples.long_rows():
            self.assertEqual(row_after(row, rounds=0), row)

    def test_very_many_rounds(self):
        for row in samples.long_rows():
            final = reference.rows_to_still(row)[-1]
            for rounds in [100, 10 ** 6, GREATEST - 1, GREATEST]:
                self.assertEqual(row_after(row, rounds=rounds), final, row)

    def test_a_slow_row_round_by_round(self):
        row = (7, 8, 9, 5, 6, 4, 2, 3)
        last = [row_after(row, rounds=rounds)[-1] for rounds in range(7)]
        self.assertEqual(last, [3, 2, 3, 5, 8, 8, 8])

    def test_all_entries_are_replaced_at_the_same_time(self):
        self.assertEqual(row_after((1, 1, 2)), (1, 1, 3))
        self.assertEqual(row_after((3, 1, 2)), (1, 1, 2))

    def test_no_entry_gets_less_from_the_first_round_on(self):
        for row in samples.long_rows():
            for rounds in range(1, 11):
                before = row_after(row, rounds=rounds)
                after = row_after(row, rounds=rounds + 1)
                self.assertTrue(all(old <= new for old, new in zip(before, after)), row)

    def test_returns_a_tuple_of_integers(self):
        for rounds in [0, 1, 2, GREATEST]:
            row = row_after(samples.ROW, rounds=rounds)
            self.assertIs(type(row), tuple)
            self.assertTrue(all(type(entry) is int for entry in row))

    def test_results_may_be_passed_back(self):
        for row in samples.long_rows():
            self.assertEqual(row_after(row_after(row)), row_after(row, rounds=2))


class RowsOf(unittest.TestCase):
    def test_small_rows(self):
        for size in [1, 2, 3, 4]:
            for row in samples.small_rows(size):
                self.assertEqual(list(rows_of(row)), reference.rows_to_still(row))

    def test_long_rows(self):
        for row in samples.long_rows():
            self.assertEqual(list(rows_of(row)), reference.rows_to_still(row))

    def test_a_still_row_at_once(self):
        for row in [(1,), (1, 2), (1, 1), (1, 1, 3), tuple(range(1, 101)), (1,) * 100]:
            self.assertEqual(list(rows_of(row)), [row])

    def test_a_row_that_is_not_still_is_followed_by_a_still_one(self):
        self.assertEqual(list(rows_of((0,))), [(0,), (1,)])
        self.assertEqual(list(rows_of((2, 2))), [(2, 2), (1, 1)])

    def test_is_a_generator(self):
        rows = rows_of((4, 2, 3))
        self.assertIs(iter(rows), rows)
        self.assertEqual([next(rows), next(rows), next(rows)], [(4, 2, 3), (1, 1, 2), (1, 1, 3)])
        self.assertEqual([next(rows, "end"), next(rows, "end")], ["end", "end"])

    def test_generators_do_not_share_their_progress(self):
        one, other = rows_of((4, 2, 3)), rows_of((4, 2, 3))
        self.assertEqual([next(one), next(one), next(other)], [(4, 2, 3), (1, 1, 2), (4, 2, 3)])

    def test_its_error_is_raised_when_the_first_item_is_requested(self):
        for value in samples.NO_ROWS:
            rows = rows_of(value)
            with self.assertRaises(InvalidRow, msg=value) as caught:
                next(rows)
            self.assertIs(type(caught.exception), InvalidRow)


if __name__ == "__main__":
    unittest.main()
