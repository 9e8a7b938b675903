"""Section 8 and points [9] and [11]: orders, and rows of integers below a bound."""

import fractions
import itertools
import math
import random
import unittest

import reference
import reference_numbers
import samples
from samples import GREATEST
from spanrounds.errors import InvalidNumber, InvalidOrder
from spanrounds.orders import count_orders, count_rows, nth_order, order_number

CHAIN, FLAT, STAR = tuple(range(1, 101)), (1,) * 100, (1,) * 99 + (100,)


def small_orders():
    """All orders of one to six places, by their spans, sorted by their sequences."""
    groups = []
    for size in range(1, 7):
        for spans, orders in reference.by_spans(itertools.permutations(range(size))).items():
            groups.append((spans, sorted(orders, key=reference.sequence)))
    return groups


class SmallOrders(unittest.TestCase):
    def test_there_are_orders_for_all_span_rows(self):
        spans = [row for size in range(1, 7) for row in reference.built_span_rows(size)]
        self.assertEqual(sorted(row for row, _ in small_orders()), sorted(spans))

    def test_count_orders(self):
        for spans, orders in small_orders():
            self.assertEqual(count_orders(spans), len(orders), spans)

    def test_nth_order(self):
        for spans, orders in small_orders():
            self.assertEqual([nth_order(spans, number) for number in range(len(orders))], orders, spans)
            for number in [-1, len(orders), len(orders) + 1]:
                self.assertRaises(InvalidNumber, nth_order, spans, number)

    def test_order_number(self):
        for spans, orders in small_orders():
            self.assertEqual([order_number(order) for order in orders], list(range(len(orders))), spans)

    def test_sequences_are_compared_and_not_the_orders(self):
        spans = (1, 1, 2, 1, 2, 1)
        orders = [nth_order(spans, number) for number in range(8)]
        self.assertEqual(sorted(orders, key=reference.sequence), orders)
        self.assertNotEqual(sorted(orders), orders)
        self.assertNotEqual(sorted(orders, reverse=True), orders)

    def test_the_other_ways_that_long_orders_are_held_against(self):
        for spans, orders in small_orders():
            self.assertEqual(reference_numbers.count_orders(spans), len(orders))
            numbers = [reference_numbers.order_number(order) for order in orders]
            self.assertEqual(numbers, list(range(len(orders))))
            following = [reference_numbers.following_order(order) for order in orders]
            self.assertEqual(following, orders[1:] + [None])

    def test_all_other_small_tuples_are_no_orders(self):
        for size in range(5):
            for row in itertools.product(range(-1, 6), repeat=size):
                if not row or sorted(row) != list(range(size)):
                    self.assertRaises(InvalidOrder, order_number, row)
                else:
                    self.assertGreaterEqual(order_number(row), 0)


class LongOrders(unittest.TestCase):
    def test_count_orders_of_all_shapes(self):
        for name, spans in samples.shapes().items():
            self.assertEqual(count_orders(spans), reference_numbers.count_orders(spans), name)
        for spans in samples.long_span_rows():
            self.assertEqual(count_orders(spans), reference_numbers.count_orders(spans), spans)

    def test_count_orders_as_the_document_says(self):
        for spans in samples.long_span_rows():
            stretches = [reference.stretch(spans, place) for place in range(len(spans))]
            product = math.prod(last - first + 1 for first, last in stretches)
            self.assertEqual(count_orders(spans), math.factorial(len(spans)) // product)
            self.assertEqual(math.factorial(len(spans)) - count_orders(spans) * product, 0)

    def test_one_order_only(self):
        falling, rising = tuple(range(99, -1, -1)), tuple(range(100))
        self.assertEqual([count_orders(FLAT), count_orders(CHAIN), count_orders(STAR)], [1, 1, 1])
        self.assertEqual([nth_order(FLAT, 0), nth_order(CHAIN, 0)], [falling, rising])
        self.assertEqual(nth_order(STAR, 0), tuple(range(98, -1, -1)) + (99,))
        self.assertEqual([order_number(falling), order_number(rising)], [0, 0])
        for spans in [FLAT, CHAIN, STAR]:
            self.assertRaises(InvalidNumber, nth_order, spans, 1)

    def test_all_lengths(self):
        for size in range(1, 101):
            self.assertEqual(nth_order((1,) * size, 0), tuple(range(size - 1, -1, -1)))
            self.assertEqual(nth_order(tuple(range(1, size + 1)), 0), tuple(range(size)))

    def test_numbers_of_all_shapes_both_ways(self):
        for name, spans in samples.shapes().items():
            numbers = samples.numbers_among(count_orders(spans))
            sequences = []
            for number in numbers:
                order = nth_order(spans, number)
                self.assertEqual(sorted(order), list(range(100)), name)
                self.assertEqual(reference.after_round(order), spans, name)
                self.assertEqual(order_number(order), number, name)
                sequences.append(reference.sequence(order))
            self.assertEqual(sorted(set(sequences)), sequences, name)
            self.assertRaises(InvalidNumber, nth_order, spans, numbers[-1] + 1)
            self.assertRaises(InvalidNumber, nth_order, spans, -1)

    def test_the_next_number_has_the_next_order(self):
        for name, spans in samples.shapes().items():
            count = count_orders(spans)
            for number in [0, count // 3, count // 2, count - 2]:
                if 0 <= number < count - 1:
                    following = reference_numbers.following_order(nth_order(spans, number))
                    self.assertEqual(nth_order(spans, number + 1), following, name)
                    self.assertEqual(order_number(following), number + 1, name)
            self.assertIs(reference_numbers.following_order(nth_order(spans, count - 1)), None, name)

    def test_any_orders_of_100_places(self):
        chance = random.Random(8)
        for _ in range(20):
            order = tuple(chance.sample(range(100), 100))
            number = order_number(order)
            self.assertEqual(number, reference_numbers.order_number(order))
            self.assertEqual(nth_order(reference.after_round(order), number), order)

    def test_orders_of_other_lengths(self):
        for spans in samples.long_span_rows():
            count = count_orders(spans)
            for number in {0, count // 2, count - 1}:
                order = nth_order(spans, number)
                self.assertEqual(reference.after_round(order), spans)
                self.assertEqual(order_number(order), number)

    def test_kinds(self):
        for spans in [(1,), (1, 2), samples.SPANS, STAR]:
            order = nth_order(spans, 0)
            self.assertIs(type(order), tuple)
            self.assertTrue(all(type(integer) is int for integer in order))
            self.assertIs(type(order_number(order)), int)
            self.assertIs(type(count_orders(spans)), int)


class CountRows(unittest.TestCase):
    def test_all_rows_of_one_to_four_integers(self):
        for size in range(1, 5):
            for below in range(1, 6):
                groups = reference.by_spans(itertools.product(range(below), repeat=size))
                for spans in reference.built_span_rows(size):
                    self.assertEqual(count_rows(spans, below=below), len(groups.get(spans, [])), (spans, below))

    def test_the_other_way_that_long_rows_are_held_against(self):
        for size in range(1, 5):
            groups = reference.by_spans(itertools.product(range(4), repeat=size))
            for spans in reference.built_span_rows(size):
                self.assertEqual(reference_numbers.count_rows(spans, 4), len(groups.get(spans, [])))

    def test_bounds_around_the_number_of_places(self):
        for spans in samples.long_span_rows():
            if len(spans) <= 7:
                for below in range(1, 25):
                    self.assertEqual(count_rows(spans, below=below), reference_numbers.count_rows(spans, below))

    def test_100_places_and_bounds_around_100(self):
        for name in ["ten times ten", "deep with leaves", "halves in halves", "two deep ones", "at random"]:
            spans = samples.shapes()[name]
            for below in [1, 2, 10, 99, 100, 101, 120]:
                self.assertEqual(count_rows(spans, below=below), reference_numbers.count_rows(spans, below), name)

    def test_falling_rows(self):
        for size in range(1, 101):
            for below in [1, 2, size, 10 ** 6, GREATEST - 1, GREATEST]:
                expected = math.comb(below + size - 1, size)
                self.assertEqual(count_rows((1,) * size, below=below), expected, (size, below))

    def test_rising_rows(self):
        for size in range(1, 101):
            for below in [1, 2, size, size + 1, 10 ** 6, GREATEST - 1, GREATEST]:
                expected = math.comb(below, size)
                self.assertEqual(count_rows(tuple(range(1, size + 1)), below=below), expected, (size, below))

    def test_one_root_over_all(self):
        for size in range(2, 101):
            for below in [1, 2, size, 10 ** 6, GREATEST]:
                # The last entry is greater than the first one, and the rest falls.
                expected = math.comb(below + size - 2, size)
                self.assertEqual(count_rows((1,) * (size - 1) + (size,), below=below), expected, (size, below))

    def test_one_place(self):
        for below in [1, 2, 17, GREATEST - 1, GREATEST]:
            self.assertEqual(count_rows((1,), below=below), below)

    def test_differences(self):
        # As a polynomial of the bound it has the number of places as its degree. Of the rows with as many
        # different entries as places there is one for each order and choice of entries: the last difference.
        for name, spans in samples.shapes().items():
            for start in [1, 200, 10 ** 15, GREATEST - 101]:
                values = [count_rows(spans, below=start + step) for step in range(102)]
                for _ in range(100):
                    values = [after - before for before, after in zip(values, values[1:])]
                self.assertEqual(values, [count_orders(spans)] * 2, (name, start))

    def test_great_bounds_against_values_at_small_ones(self):
        for size in range(1, 7):
            for spans in reference.built_span_rows(size):
                points = [(below, reference_numbers.count_rows(spans, below)) for below in range(1, size + 2)]
                for below in [10 ** 9, 10 ** 29 + 7, GREATEST]:
                    self.assertEqual(count_rows(spans, below=below), through(points, below), (spans, below))

    def test_too_few_integers(self):
        self.assertEqual([count_rows(CHAIN, below=below) for below in [1, 50, 99, 100, 101]], [0, 0, 0, 1, 101])
        self.assertEqual([count_rows(STAR, below=below) for below in [1, 2]], [0, 1])
        self.assertEqual(count_rows(FLAT, below=1), 1)

    def test_kind(self):
        self.assertIs(type(count_rows(samples.SPANS, below=GREATEST)), int)


def through(points, at):
    """The value at a place of the polynomial through some points, by Lagrange's formula."""
    total = fractions.Fraction(0)
    for one, value in points:
        factors = [fractions.Fraction(at - other, one - other) for other, _ in points if other != one]
        total += value * math.prod(factors)
    return total


if __name__ == "__main__":
    unittest.main()
