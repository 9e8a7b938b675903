"""Section 10 and points [6] and [13]: weighted rounds."""

import itertools
import random
import unittest

import reference
import samples
from samples import GREATEST, GREATEST_WEIGHT, ROW
from spanrounds.rows import is_row
from spanrounds.weights import is_weights, weighted_after, weighted_needed


def fibonaccis(size):
    numbers = [1, 1]
    while len(numbers) < size:
        numbers.append(numbers[-1] + numbers[-2])
    return tuple(numbers[:size])


def kinds_of_weights(size):
    chance = random.Random(size)
    up = fibonaccis(size)
    return [
        (1,) * size, (7,) * size, (GREATEST_WEIGHT,) * size, up, up[::-1], tuple(range(1, size + 1)),
        (1,) * (size - 1) + (GREATEST_WEIGHT,), (GREATEST_WEIGHT,) + (1,) * (size - 1),
        tuple(2 ** min(place, 90) for place in range(size)), tuple(2 ** min(size - place, 90) for place in range(size)),
        tuple(chance.randint(1, 5) for _ in range(size)),
        tuple(chance.randint(1, GREATEST_WEIGHT) for _ in range(size)),
    ]


def small_cases():
    for size in [1, 2, 3]:
        for row in samples.small_rows(size):
            for weights in itertools.product([1, 2, 3], repeat=size):
                yield row, weights
    for row in reference.built_span_rows(5):
        for weights in itertools.product([1, 2, 4], repeat=5):
            yield row, weights


def long_cases():
    for row in samples.long_rows():
        for weights in kinds_of_weights(len(row)):
            yield row, weights


class IsWeights(unittest.TestCase):
    def test_lengths(self):
        for length in samples.LENGTHS:
            for other in [0, 1, length - 1, length, length + 1, 101, 200]:
                self.assertIs(is_weights((9,) * length, (2,) * other), other == length, (length, other))

    def test_greatest_and_least(self):
        for length in [1, 2, 100]:
            row = (9,) * length
            for weight in [1, 2, GREATEST_WEIGHT - 1, GREATEST_WEIGHT]:
                self.assertIs(is_weights(row, (weight,) * length), True)
                self.assertIs(is_weights(row, (1,) * (length - 1) + (weight,)), True)
            for weight in [0, -1, GREATEST_WEIGHT + 1, GREATEST, -GREATEST_WEIGHT, 10 ** 199, True, False, None, "1"]:
                self.assertIs(is_weights(row, (weight,) * length), False, weight)
                self.assertIs(is_weights(row, (1,) * (length - 1) + (weight,)), False, weight)
                self.assertIs(is_weights(row, (weight,) + (1,) * (length - 1)), False, weight)

    def test_any_other_value(self):
        for value in samples.NO_WEIGHTS:
            self.assertIs(is_weights(ROW, value), False, value)

    def test_the_entries_of_the_row_do_not_matter(self):
        for row in samples.long_rows():
            for weights in kinds_of_weights(len(row)):
                self.assertIs(is_weights(row, weights), True)


class Weighted(unittest.TestCase):
    def check(self, row, weights):
        rows = reference.weighted_rows(row, weights)
        for rounds in {0, 1, 2, 3, len(row), GREATEST} | set(range(len(rows) + 1)):
            expected = rows[min(rounds, len(rows) - 1)]
            self.assertEqual(weighted_after(row, weights, rounds=rounds), expected, (row, weights, rounds))
        self.assertEqual(weighted_after(row, weights), rows[min(1, len(rows) - 1)], (row, weights))
        self.assertEqual(weighted_needed(row, weights), len(rows) - 1, (row, weights))
        self.assertLessEqual(len(rows) - 1, len(row))

    def test_small_rows(self):
        for row, weights in small_cases():
            self.check(row, weights)

    def test_long_rows(self):
        for row, weights in long_cases():
            self.check(row, weights)

    def test_rounds_are_played_one_by_one(self):
        for row in samples.long_rows():
            if len(row) == 7:
                for weights in kinds_of_weights(7):
                    played = row
                    for rounds in range(10):
                        self.assertEqual(weighted_after(row, weights, rounds=rounds), played)
                        played = reference.weighted_round(played, weights)

    def test_the_weight_of_the_hinderer_does_not_count(self):
        self.assertEqual(weighted_after((5, 4, 6, 6), (10, 20, 40, 80)), (10, 20, 70, 80))

    def test_equal_entries_hinder(self):
        self.assertEqual(weighted_after((3, 3, 3), (4, 5, 6)), (4, 5, 6))
        self.assertEqual(weighted_after((3, 3, 3), (4, 4, 4), rounds=GREATEST), (4, 4, 4))

    def test_as_many_rounds_as_entries(self):
        for size in range(1, 101):
            # Behind Fibonacci's numbers, downwards, the last entry gets over one more of them in each round.
            row, weights = tuple(range(size + 5, 5, -1)), fibonaccis(size)[:0:-1] + (2,)
            self.assertEqual(weighted_needed(row, weights), size)
            before, last = [weighted_after(row, weights, rounds=rounds) for rounds in [size - 1, size]]
            self.assertNotEqual(before, last)
            self.check(row, weights)

    def test_needed_zero(self):
        self.assertEqual(weighted_needed((2, 1), (2, 1)), 0)
        self.assertEqual(weighted_needed((GREATEST_WEIGHT,), (GREATEST_WEIGHT,)), 0)
        self.assertEqual(weighted_needed((GREATEST_WEIGHT,) * 100, (GREATEST_WEIGHT,) * 100), 0)

    def test_the_greatest_entries_that_result_are_entries(self):
        row = weighted_after(tuple(range(100)), (GREATEST_WEIGHT,) * 100)
        self.assertEqual(row[-1], GREATEST)
        self.assertTrue(is_row(row))

    def test_results_may_be_passed_back(self):
        for row, weights in long_cases():
            once = weighted_after(row, weights)
            self.assertTrue(is_row(once))
            self.assertEqual(weighted_after(once, weights), weighted_after(row, weights, rounds=2))
            final = weighted_after(row, weights, rounds=len(row))
            self.assertEqual([weighted_after(final, weights), weighted_needed(final, weights)], [final, 0])

    def test_kinds(self):
        for rounds in [0, 1, 2, GREATEST]:
            row = weighted_after(ROW, (3,) * 6, rounds=rounds)
            self.assertIs(type(row), tuple)
            self.assertTrue(all(type(entry) is int for entry in row))
        self.assertIs(type(weighted_needed(ROW, (3,) * 6)), int)


if __name__ == "__main__":
    unittest.main()
