"""What holds between the modules: points [2], [7], [8], [11] and [12] across counting, orders, reading and weights."""

import itertools
import math
import unittest

import reference
import samples
from samples import GREATEST
from spanrounds.counting import count_spans, count_still, nth_spans, nth_still, spans_number, still_number
from spanrounds.forests import children_of, from_brackets, is_spans, roots_of, stretch_of, to_brackets
from spanrounds.orders import count_orders, count_rows, nth_order, order_number
from spanrounds.reading import example, is_certain, relation
from spanrounds.rows import row_after
from spanrounds.settling import final_row, is_still, meeting, rounds_needed, slowest_row
from spanrounds.weights import is_weights, weighted_after, weighted_needed


def all_spans(size):
    return [nth_spans(size, number) for number in range(count_spans(size))]


class Sums(unittest.TestCase):
    def test_the_numbers_of_orders_add_up_to_the_factorial(self):
        for size in range(1, 9):
            self.assertEqual(sum(count_orders(spans) for spans in all_spans(size)), math.factorial(size))

    def test_the_numbers_of_rows_add_up_to_all_rows(self):
        for size in range(1, 7):
            for below in [1, 2, 3, size, 1000, GREATEST]:
                self.assertEqual(sum(count_rows(spans, below=below) for spans in all_spans(size)), below ** size)

    def test_the_still_rows_are_as_many_as_counted(self):
        for size in range(1, 9):
            self.assertEqual(sum(is_still(spans) for spans in all_spans(size)), count_still(size))

    def test_all_rows_of_a_size_become_the_still_rows_of_that_size(self):
        for size in range(1, 7):
            finals = {final_row(spans) for spans in all_spans(size)}
            self.assertEqual(sorted(still_number(row) for row in finals), list(range(count_still(size))))


class SpansOfWhatIsReturned(unittest.TestCase):
    def test_orders_have_their_spans(self):
        for size in range(1, 7):
            for spans in all_spans(size):
                for number in range(count_orders(spans)):
                    self.assertEqual(row_after(nth_order(spans, number)), spans)

    def test_long_orders_have_their_spans(self):
        for spans in list(samples.shapes().values()) + samples.long_span_rows():
            for number in {0, count_orders(spans) // 2, count_orders(spans) - 1}:
                order = nth_order(spans, number)
                self.assertEqual(row_after(order), spans)
                self.assertEqual(nth_order(row_after(order), order_number(order)), order)

    def test_examples_have_their_spans(self):
        for size in range(2, 7):
            for spans in all_spans(size):
                for place, other in itertools.permutations(range(size), 2):
                    rows = [example(spans, place, other, sign=sign) for sign in "<=>"]
                    self.assertEqual([row_after(row) for row in rows if row], [spans] * (3 - rows.count(None)))
                    signs = {reference.sign(row, place, other) for row in rows if row}
                    word = relation(spans, place, other)
                    self.assertEqual(signs, set("<=>" if word == "open" else word))

    def test_numbered_rows_are_span_rows(self):
        for size in [1, 2, 50, 99, 100]:
            for number in samples.numbers_among(count_still(size)):
                self.assertTrue(is_spans(nth_spans(size, number)))
                self.assertTrue(is_spans(nth_still(size, number)))

    def test_numbers_of_span_rows_through_brackets(self):
        for size in range(1, 7):
            texts = [to_brackets(nth_spans(size, number)) for number in range(count_spans(size))]
            self.assertEqual([spans_number(from_brackets(text)) for text in texts], list(range(len(texts))))


class Relations(unittest.TestCase):
    def test_orders_keep_to_them(self):
        for spans in all_spans(5):
            orders = [nth_order(spans, number) for number in range(count_orders(spans))]
            for place, other in itertools.permutations(range(5), 2):
                signs = {reference.sign(order, place, other) for order in orders}
                word = relation(spans, place, other)
                self.assertEqual(signs, {"<", ">"} if word == "open" else {word[0]})

    def test_certain_pairs_are_those_of_the_stretches(self):
        for spans in samples.shapes().values():
            stretches = [stretch_of(spans, place) for place in range(100)]
            for place, other in [(one, two) for one in range(0, 100, 9) for two in range(1, 100, 7) if one != two]:
                within = stretches[place][0] <= other <= stretches[place][1]
                without = stretches[other][0] <= place <= stretches[other][1]
                self.assertIs(is_certain(spans, place, other), within or without)

    def test_turned_around(self):
        turned = {"<": ">", "<=": ">=", ">": "<", ">=": "<=", "open": "open"}
        for spans in all_spans(6):
            for place, other in itertools.combinations(range(6), 2):
                self.assertEqual(relation(spans, other, place), turned[relation(spans, place, other)])
                self.assertIs(is_certain(spans, other, place), is_certain(spans, place, other))


class Weights(unittest.TestCase):
    def test_with_all_weights_1_weighted_rounds_are_rounds(self):
        for row in samples.long_rows() + [slowest_row(size) for size in range(1, 101)]:
            ones = (1,) * len(row)
            for rounds in [0, 1, 2, 3, 9, GREATEST]:
                self.assertEqual(weighted_after(row, ones, rounds=rounds), row_after(row, rounds=rounds))
            self.assertEqual(weighted_after(row, ones), row_after(row))
            self.assertEqual(weighted_needed(row, ones), rounds_needed(row))

    def test_small_rows_with_all_weights_1(self):
        for size in range(1, 5):
            for row in samples.small_rows(size):
                self.assertEqual(weighted_needed(row, (1,) * size), rounds_needed(row))

    def test_with_equal_weights_the_spans_are_multiplied(self):
        for row in samples.long_rows():
            for rounds in [1, 2, GREATEST]:
                expected = tuple(7 * span for span in row_after(row, rounds=rounds))
                self.assertEqual(weighted_after(row, (7,) * len(row), rounds=rounds), expected)

    def test_span_rows_and_orders_as_weights(self):
        for spans in samples.long_span_rows():
            self.assertTrue(is_weights(spans, spans))
            self.assertEqual(is_weights(spans, nth_order(spans, 0)), False)


class Still(unittest.TestCase):
    def test_still_rows_have_their_number_and_are_their_own_final_rows(self):
        for size in range(1, 8):
            for number in range(count_still(size)):
                self.check(nth_still(size, number), number)

    def test_long_still_rows(self):
        for size in [99, 100]:
            for number in samples.numbers_among(count_still(size)):
                self.check(nth_still(size, number), number)

    def check(self, row, number):
        self.assertTrue(is_still(row))
        self.assertEqual(final_row(row), row)
        self.assertEqual(still_number(row), number)
        self.assertEqual([rounds_needed(row), weighted_needed(row, (1,) * len(row))], [0, 0])
        self.assertEqual(nth_spans(len(row), spans_number(row)), row)

    def test_final_rows_have_numbers(self):
        for row in samples.long_rows():
            final = final_row(row)
            self.assertEqual(nth_still(len(row), still_number(final)), final)
            self.assertEqual(meeting(row, nth_still(len(row), still_number(final))), rounds_needed(row))


class Lists(unittest.TestCase):
    """What the newer modules return is not a list; changing the lists of others must not change their answers."""

    def test_changed_lists_do_not_change_later_answers(self):
        spans = (1, 1, 3, 1, 2, 1)

        def answers():
            return [
                spans_number(spans), still_number(spans), count_orders(spans), nth_order(spans, 3),
                count_rows(spans, below=9), relation(spans, 0, 1), example(spans, 0, 1, sign="="),
                weighted_after(spans, (3, 1, 4, 1, 5, 9)), nth_spans(6, 50), nth_still(6, 9),
            ]

        before = answers()
        for found in [children_of(spans, 2), roots_of(spans)]:
            found.clear()
            found.append("changed")
        self.assertEqual(answers(), before)
        self.assertFalse(any(isinstance(answer, (list, dict, set)) for answer in before))


if __name__ == "__main__":
    unittest.main()
