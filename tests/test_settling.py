"""Section 5 and point [2]: when rows stop changing."""

import unittest

import reference
import samples
from spanrounds.forests import is_spans
from spanrounds.rows import is_row, row_after
from spanrounds.settling import (
    final_row,
    is_still,
    meeting,
    most_rounds,
    rounds_at,
    rounds_needed,
    slowest_row,
)

SIZES = range(1, 101)


class Settling(unittest.TestCase):
    def check(self, row):
        rows = reference.rows_to_still(row)
        self.assertIs(is_still(row), len(rows) == 1, row)
        self.assertEqual(final_row(row), rows[-1], row)
        self.assertEqual(rounds_needed(row), len(rows) - 1, row)
        for place in range(len(row)):
            self.assertEqual(rounds_at(row, place), reference.rounds_at(rows, place), (row, place))

    def test_small_rows(self):
        for size in [1, 2, 3, 4]:
            for row in samples.small_rows(size):
                self.check(row)

    def test_small_span_rows(self):
        for size in [5, 6, 7]:
            for row in reference.built_span_rows(size):
                self.check(row)

    def test_long_rows(self):
        for row in samples.long_rows() + samples.long_span_rows():
            self.check(row)

    def test_still_rows(self):
        for row in [(1,), (1, 1), (1, 2), (1, 1, 3), (1, 2, 1), (1,) * 100, tuple(range(1, 101))]:
            self.assertIs(is_still(row), True, row)
            self.assertEqual([final_row(row), rounds_needed(row)], [row, 0])
            self.assertEqual([rounds_at(row, place) for place in range(len(row))], [0] * len(row))

    def test_rows_that_are_not_still(self):
        for row in [(0,), (2,), (2, 1), (1, 1, 2), (1, 3), (1,) * 99 + (2,)]:
            self.assertIs(is_still(row), False, row)
            self.assertNotEqual(rounds_needed(row), 0)

    def test_still_span_rows_are_those_of_point_8(self):
        for size in range(1, 8):
            for row in reference.built_span_rows(size):
                self.assertIs(is_still(row), reference.has_still_siblings(row), row)

    def test_numbers_of_still_rows_as_point_2_gives_them(self):
        rows = {size: reference.built_span_rows(size) for size in range(1, 8)}
        counts = [sum(is_still(row) for row in rows[size]) for size in range(1, 8)]
        self.assertEqual(counts, still_counts(7))

    def test_an_entry_that_is_final_at_first_and_not_later(self):
        self.assertEqual(final_row((4, 2, 3)), (1, 1, 3))
        self.assertEqual(rounds_at((4, 2, 3), 2), 2)
        self.assertEqual(rounds_at((1, 0, 9), 0), 0)

    def test_needed_is_the_last_of_the_places(self):
        for row in samples.long_rows():
            self.assertEqual(rounds_needed(row), max(rounds_at(row, place) for place in range(len(row))))


def still_counts(most):
    """[2]: the product of 1 / (1 - f(s - 1) x ** s) over all s, up to x ** most; f(0) is left out."""
    counts = [1] + [0] * most
    for size in range(1, most + 1):
        factor = counts[size - 1]
        for total in range(size, most + 1):
            counts[total] += factor * counts[total - size]
    return counts[1:]


class MostRounds(unittest.TestCase):
    def test_fibonaccis_numbers(self):
        for size in SIZES:
            self.assertEqual(most_rounds(size), reference.most_rounds(size), size)

    def test_where_it_grows(self):
        grown = [size for size in SIZES if size > 1 and most_rounds(size) > most_rounds(size - 1)]
        self.assertEqual(grown, [3, 5, 8, 13, 21, 34, 55, 89])

    def test_against_all_rows(self):
        for size in range(1, 9):
            # After one round each row is a span row, so rows for all span rows are enough.
            spans = reference.built_span_rows(size)
            rows = [reference.row_with(row) for row in spans]
            self.assertEqual([row_after(row) for row in rows], spans)
            needed = [len(reference.rows_to_still(row)) - 1 for row in rows]
            self.assertEqual([rounds_needed(row) for row in rows], needed)
            self.assertEqual(most_rounds(size), max(needed), size)

    def test_no_row_needs_more(self):
        for row in samples.long_rows():
            self.assertLessEqual(rounds_needed(row), most_rounds(len(row)))


class SlowestRow(unittest.TestCase):
    def test_all_sizes(self):
        for size in SIZES:
            row = slowest_row(size)
            self.assertTrue(is_row(row), size)
            self.assertEqual(len(row), size)
            self.assertEqual(len(reference.rows_to_still(row)) - 1, reference.most_rounds(size), size)
            self.assertEqual(rounds_needed(slowest_row(size)), most_rounds(size), size)

    def test_equal_arguments_give_equal_results(self):
        for size in SIZES:
            self.assertEqual(slowest_row(size), slowest_row(size))

    def test_its_final_row_is_a_still_span_row(self):
        for size in SIZES:
            final = final_row(slowest_row(size))
            self.assertTrue(is_spans(final) and is_still(final), size)


class Meeting(unittest.TestCase):
    def test_small_rows(self):
        for size in [1, 2]:
            rows = list(samples.small_rows(size))
            for row in rows:
                for other_row in rows:
                    self.assertEqual(meeting(row, other_row), reference.meeting(row, other_row), (row, other_row))

    def test_span_rows(self):
        for size in [3, 4, 5]:
            rows = reference.span_rows(size)
            for row in rows:
                for other_row in rows:
                    self.assertEqual(meeting(row, other_row), reference.meeting(row, other_row), (row, other_row))

    def test_equal_at_once(self):
        for row in samples.long_rows():
            self.assertEqual(meeting(row, row), 0)
            self.assertEqual(meeting(row, tuple(list(row))), 0)

    def test_equal_after_one_round(self):
        for row in samples.long_rows():
            if max(row) < 10 ** 29:
                self.assertEqual(meeting(row, tuple(entry + 1 for entry in row)), 1)
        self.assertEqual(meeting((1,), (2,)), 1)

    def test_with_the_own_later_rows(self):
        for size in [3, 5, 8, 13, 21, 34, 55, 89, 100]:
            row = slowest_row(size)
            self.assertEqual(meeting(row, final_row(row)), most_rounds(size))
            self.assertEqual(meeting(final_row(row), row), most_rounds(size))
            self.assertEqual(meeting(row, row_after(row)), most_rounds(size))

    def test_a_row_is_compared_with_a_row_that_is_still_already(self):
        self.assertEqual(meeting((4, 2, 3), (1, 1, 3)), 2)
        self.assertEqual(meeting((1, 1, 3), (4, 2, 3)), 2)

    def test_rows_that_meet_at_different_numbers_of_rounds_do_not_meet_there(self):
        self.assertEqual(meeting((4, 2, 3), (1, 1, 2)), 2)

    def test_never(self):
        self.assertIs(meeting((1, 2), (2, 1)), None)
        self.assertIs(meeting((1,) * 100, tuple(range(100))), None)
        self.assertIs(meeting(tuple(range(100)), (1,) * 100), None)
        self.assertIs(meeting((1,) * 99, (1,) * 98 + (2,)), None)


if __name__ == "__main__":
    unittest.main()
