"""Section 7 and point [2]: the numbers of span rows and still rows."""

import math
import unittest

import reference
import reference_numbers
import samples
from spanrounds.counting import count_spans, count_still, nth_spans, nth_still, spans_number, still_number
from spanrounds.errors import InvalidNumber, NotSpans, NotStill
from spanrounds.rows import row_after

SIZES = range(1, 101)


class CountSpans(unittest.TestCase):
    def test_all_sizes_against_binomials(self):
        for size in SIZES:
            self.assertEqual(count_spans(size), math.comb(2 * size, size) // (size + 1), size)

    def test_all_sizes_against_pairs_of_lesser_ones(self):
        self.assertEqual([count_spans(size) for size in SIZES], reference_numbers.spans_counts()[1:])

    def test_against_all_rows(self):
        for size in range(1, 6):
            self.assertEqual(count_spans(size), len(reference.span_rows(size)), size)
        for size in range(1, 10):
            self.assertEqual(count_spans(size), len(reference.built_span_rows(size)), size)


class CountStill(unittest.TestCase):
    def test_all_sizes_against_the_product_of_point_2(self):
        self.assertEqual([count_still(size) for size in SIZES], reference_numbers.still_counts()[1:])

    def test_against_all_span_rows(self):
        for size in range(1, 10):
            rows = reference.built_span_rows(size)
            self.assertEqual(count_still(size), sum(reference.after_round(row) == row for row in rows), size)
            self.assertEqual(count_still(size), sum(reference.has_still_siblings(row) for row in rows), size)

    def test_still_rows_are_span_rows(self):
        for size in SIZES:
            self.assertLessEqual(count_still(size), count_spans(size))
            self.assertIs(type(count_still(size)), int)
            self.assertIs(type(count_spans(size)), int)


class Small(unittest.TestCase):
    """All span rows and still rows of up to seven entries, listed and sorted here."""

    def check(self, rows, size, nth, number):
        self.assertEqual([nth(size, one) for one in range(len(rows))], rows)
        self.assertEqual([number(row) for row in rows], list(range(len(rows))))
        for one in [-1, len(rows), len(rows) + 1]:
            self.assertRaises(InvalidNumber, nth, size, one)

    def test_spans(self):
        for size in range(1, 8):
            rows = sorted(reference.built_span_rows(size))
            self.check(rows, size, nth_spans, spans_number)

    def test_spans_that_result_from_all_rows(self):
        for size in range(1, 6):
            self.check(reference.span_rows(size), size, nth_spans, spans_number)

    def test_still(self):
        for size in range(1, 8):
            self.check(reference.still_rows(size), size, nth_still, still_number)

    def test_the_two_orders_differ(self):
        self.assertEqual([nth_spans(3, 2), nth_spans(3, 3)], [(1, 1, 3), (1, 2, 1)])
        self.assertEqual([nth_still(3, 1), nth_still(3, 2)], [(1, 2, 1), (1, 1, 3)])

    def test_all_rows_but_still_rows_are_not_still(self):
        for size in range(1, 6):
            still = reference.still_rows(size)
            for row in reference.span_rows(size) + list(samples.small_rows(min(size, 4))):
                if row not in still and row != reference.after_round(row):
                    self.assertRaises(NotStill, still_number, row)

    def test_all_small_tuples_but_span_rows_are_no_span_rows(self):
        for size in range(1, 5):
            for row in samples.small_rows(size):
                if not reference.is_span_row(row):
                    self.assertRaises(NotSpans, spans_number, row)


class OtherWays(unittest.TestCase):
    """The other ways of counting that the long rows are held against, on short rows."""

    def check(self, rows, number, following):
        self.assertEqual([number(row) for row in rows], list(range(len(rows))))
        self.assertEqual([following(row) for row in rows], rows[1:] + [None])

    def test_spans(self):
        for size in range(1, 7):
            rows = sorted(reference.built_span_rows(size))
            self.check(rows, reference_numbers.spans_number, reference_numbers.following_spans)

    def test_still(self):
        for size in range(1, 8):
            rows = reference.still_rows(size)
            self.check(rows, reference_numbers.still_number, reference_numbers.following_still)


class LongSpans(unittest.TestCase):
    def test_first_and_last_of_all_sizes(self):
        for size in SIZES:
            last = count_spans(size) - 1
            self.assertEqual(nth_spans(size, 0), (1,) * size)
            self.assertEqual(nth_spans(size, last), tuple(range(1, size + 1)))
            self.assertEqual(spans_number((1,) * size), 0)
            self.assertEqual(spans_number(tuple(range(1, size + 1))), last)
            self.assertRaises(InvalidNumber, nth_spans, size, last + 1)
            self.assertRaises(InvalidNumber, nth_spans, size, -1)

    def test_numbers_of_100_entries_both_ways(self):
        for number in samples.numbers_among(count_spans(100)):
            row = nth_spans(100, number)
            self.assertEqual(len(row), 100)
            self.assertTrue(reference.is_span_row(row))
            self.assertEqual(spans_number(row), number)
            self.assertEqual(reference_numbers.spans_number(row), number)

    def test_the_next_number_has_the_next_row(self):
        last = count_spans(100) - 1
        for number in samples.numbers_among(last):
            following = reference_numbers.following_spans(nth_spans(100, number))
            self.assertEqual(nth_spans(100, number + 1), following)
            self.assertEqual(spans_number(following), number + 1)
        self.assertIs(reference_numbers.following_spans(nth_spans(100, last)), None)

    def test_rows_both_ways(self):
        for row in samples.long_span_rows() + list(samples.shapes().values()):
            number = spans_number(row)
            self.assertEqual(number, reference_numbers.spans_number(row), row)
            self.assertEqual(nth_spans(len(row), number), row)

    def test_the_last_entry_counts_least(self):
        flat = (1,) * 99
        self.assertEqual([spans_number(flat + (entry,)) for entry in range(1, 101)], list(range(100)))


class LongStill(unittest.TestCase):
    def test_first_and_last_of_all_sizes(self):
        for size in SIZES:
            last = count_still(size) - 1
            self.assertEqual(nth_still(size, 0), (1,) * size)
            self.assertEqual(nth_still(size, last), tuple(range(1, size + 1)))
            self.assertEqual(still_number((1,) * size), 0)
            self.assertEqual(still_number(tuple(range(1, size + 1))), last)
            self.assertRaises(InvalidNumber, nth_still, size, last + 1)
            self.assertRaises(InvalidNumber, nth_still, size, -1)

    def test_numbers_of_100_entries_both_ways(self):
        for number in samples.numbers_among(count_still(100)):
            row = nth_still(100, number)
            self.assertEqual(len(row), 100)
            self.assertEqual(reference.after_round(row), row)
            self.assertEqual(still_number(row), number)
            self.assertEqual(reference_numbers.still_number(row), number)

    def test_the_next_number_has_the_next_row(self):
        last = count_still(100) - 1
        for number in samples.numbers_among(last):
            following = reference_numbers.following_still(nth_still(100, number))
            self.assertEqual(nth_still(100, number + 1), following)
            self.assertEqual(still_number(following), number + 1)
        self.assertIs(reference_numbers.following_still(nth_still(100, last)), None)

    def test_rows_both_ways(self):
        for row in samples.long_rows() + list(samples.shapes().values()):
            final = reference.rows_to_still(row)[-1]
            number = still_number(final)
            self.assertEqual(number, reference_numbers.still_number(final), row)
            self.assertEqual(nth_still(len(row), number), final)

    def test_rows_that_are_not_still(self):
        for row in samples.NO_STILL + samples.long_rows() + samples.long_span_rows():
            if reference.after_round(row) != row:
                self.assertRaises(NotStill, still_number, row)


class Kinds(unittest.TestCase):
    def test_rows_are_tuples_of_integers_and_may_be_passed_back(self):
        for nth in [nth_spans, nth_still]:
            for size in [1, 2, 6, 100]:
                row = nth(size, count_still(size) // 2)
                self.assertIs(type(row), tuple)
                self.assertTrue(all(type(entry) is int for entry in row))
                self.assertEqual(len(row_after(row)), size)

    def test_numbers_are_integers(self):
        for row in [(1,), (1, 1), (1, 2, 3), (1,) * 100]:
            self.assertIs(type(spans_number(row)), int)
            self.assertIs(type(still_number(row)), int)


if __name__ == "__main__":
    unittest.main()
