"""Section 15, and the errors of each function: the first one listed that applies, and no other."""

import copy
import itertools
import unittest

import samples
import samples_console
import samples_long
from samples import GREATEST, GREATEST_WEIGHT, ROW, SPANS
from samples_long import BLOCKS, GREATEST_COUNT
from spanrounds import errors
from spanrounds.console import Console
from spanrounds.counting import count_spans, count_still, nth_spans, nth_still, spans_number, still_number
from spanrounds.errors import (
    InvalidBelow,
    InvalidBlocks,
    InvalidBrackets,
    InvalidCommand,
    InvalidEntry,
    InvalidNumber,
    InvalidOperation,
    InvalidOrder,
    InvalidPlace,
    InvalidRounds,
    InvalidRow,
    InvalidSign,
    InvalidSize,
    InvalidText,
    InvalidWeights,
    NotAlike,
    NotSpans,
    NotStill,
    SpanError,
)
from spanrounds.forests import (
    children_of,
    from_brackets,
    is_spans,
    parent_of,
    roots_of,
    stretch_of,
    to_brackets,
)
from spanrounds.live import LiveRow
from spanrounds.long import is_blocks, long_after, long_count, long_entry, long_needed
from spanrounds.orders import count_orders, count_rows, nth_order, order_number
from spanrounds.reading import example, is_certain, relation
from spanrounds.rows import hinderer, is_row, row_after, rows_of, span_of
from spanrounds.settling import (
    final_row,
    is_still,
    meeting,
    most_rounds,
    rounds_at,
    rounds_needed,
    slowest_row,
)
from spanrounds.texts import read_row, show_row
from spanrounds.weights import is_weights, weighted_after, weighted_needed

NAMES = [
    "InvalidRow", "InvalidPlace", "InvalidRounds", "InvalidSize", "NotAlike", "NotSpans", "InvalidBrackets",
    "InvalidNumber", "NotStill", "InvalidOrder", "InvalidBelow", "InvalidSign", "InvalidWeights", "InvalidBlocks",
    "InvalidEntry", "Full", "Nothing", "InvalidOperation", "InvalidText", "InvalidCommand",
]


class Classes(unittest.TestCase):
    def test_span_error_is_a_value_error(self):
        self.assertEqual(SpanError.__bases__, (ValueError,))

    def test_direct_subclasses(self):
        self.assertEqual(sorted(found.__name__ for found in SpanError.__subclasses__()), sorted(NAMES))
        for name in NAMES:
            self.assertEqual(getattr(errors, name).__bases__, (SpanError,), name)

    def test_an_error_belongs_to_its_class_to_span_error_and_to_value_error(self):
        for name in NAMES + ["SpanError"]:
            error = getattr(errors, name)("told so")
            self.assertTrue(isinstance(error, SpanError) and isinstance(error, ValueError), name)
            for other in NAMES:
                self.assertIs(isinstance(error, getattr(errors, other)), other == name, (name, other))

    def test_they_take_a_message(self):
        for name in NAMES + ["SpanError"]:
            self.assertEqual(str(getattr(errors, name)("told so")), "told so")
            with self.assertRaises(ValueError) as caught:
                raise getattr(errors, name)("told so")
            self.assertIs(type(caught.exception), getattr(errors, name))


def after(row, rounds):
    return row_after(row, rounds=rounds)


def first_of(row):
    return next(rows_of(row))


def rows_below(spans, below):
    return count_rows(spans, below=below)


def example_with(spans, place, other, sign):
    return example(spans, place, other, sign=sign)


def after_weighted(row, weights, rounds):
    return weighted_after(row, weights, rounds=rounds)


def weights_of(row):
    return is_weights(row, (1,) * 6)


def after_long(blocks, rounds):
    return long_after(blocks, rounds=rounds)


def entry_of_long(blocks, place, rounds):
    return long_entry(blocks, place, rounds=rounds)


def count_of_long(blocks, entry, rounds):
    return long_count(blocks, entry, rounds=rounds)


def still_live(size, number):
    return LiveRow.still(size, number=number)


def play(rounds):
    return LiveRow(ROW).play(rounds=rounds)


def put(place, entry):
    return LiveRow(ROW).put(place, entry)


def take(place):
    return LiveRow(ROW).take(place)


def change(place, entry):
    return LiveRow(ROW).change(place, entry)


def preview(*operations):
    return LiveRow(ROW).preview(*operations)


def say(command):
    console = Console()
    console.say("row 9 7 8 5 6 4")
    return console.say(command)


ROW_PART = (InvalidRow, ROW, samples.NO_ROWS)
SPANS_PART = (NotSpans, SPANS, samples.NO_SPANS)
PLACE_PART = (InvalidPlace, 2, samples.no_places(6))
SIZE_PART = (InvalidSize, 6, samples.NO_SIZES)
ROUNDS_PART = (InvalidRounds, 2, samples.NO_ROUNDS)
BRACKETS_PART = (InvalidBrackets, "()", samples.NO_BRACKETS)
SPANS_NUMBER_PART = (InvalidNumber, 131, samples.no_numbers(132))
STILL_NUMBER_PART = (InvalidNumber, 48, samples.no_numbers(49))
STILL_PART = (InvalidRow, (1, 1, 3, 1, 2, 1), samples.NO_ROWS)
ORDER_NUMBER_PART = (InvalidNumber, 7, samples.no_numbers(8))
ORDER_PART = (InvalidOrder, (5, 3, 4, 1, 2, 0), samples.NO_ORDERS)
BELOW_PART = (InvalidBelow, 3, samples.NO_BELOWS)
OTHER_PART = (InvalidPlace, 4, samples.no_places(6) + [2])
SIGN_PART = (InvalidSign, "<", samples.NO_SIGNS)
WEIGHTS_PART = (InvalidWeights, (3, 1, 4, 1, 5, 9), samples.NO_WEIGHTS)
BLOCKS_PART = (InvalidBlocks, BLOCKS, samples_long.NO_BLOCKS)
LONG_PLACE_PART = (InvalidPlace, 7, samples.no_places(8))
ANY_ENTRY_PART = (InvalidEntry, 10 ** 199, samples.NO_INTEGERS)
ENTRY_PART = (InvalidEntry, -GREATEST, samples.NO_ENTRIES)
PLAY_PART = (InvalidRounds, GREATEST, [0] + samples.NO_ROUNDS)
PUT_PART = (InvalidPlace, 6, samples.no_places(7))
OPERATION_PART = (InvalidOperation, ("put", 0, 5), samples.NO_OPERATIONS)
TEXT_PART = (InvalidText, "9 -7 8", samples.NO_TEXTS)
COMMAND_PART = (InvalidCommand, "take 0", samples_console.no_commands())

# Each function with its parameters, in the order in which their errors are listed:
# the error, a valid value, and values that raise the error.
FUNCTIONS = [
    (hinderer, [ROW_PART, PLACE_PART]),
    (span_of, [ROW_PART, PLACE_PART]),
    (row_after, [ROW_PART]),
    (after, [ROW_PART, ROUNDS_PART]),
    (first_of, [ROW_PART]),
    (is_still, [ROW_PART]),
    (final_row, [ROW_PART]),
    (rounds_needed, [ROW_PART]),
    (rounds_at, [ROW_PART, PLACE_PART]),
    (most_rounds, [SIZE_PART]),
    (slowest_row, [SIZE_PART]),
    (meeting, [ROW_PART, ROW_PART]),
    (parent_of, [SPANS_PART, PLACE_PART]),
    (children_of, [SPANS_PART, PLACE_PART]),
    (roots_of, [SPANS_PART]),
    (to_brackets, [SPANS_PART]),
    (from_brackets, [BRACKETS_PART]),
    (stretch_of, [SPANS_PART, PLACE_PART]),
    (count_spans, [SIZE_PART]),
    (count_still, [SIZE_PART]),
    (nth_spans, [SIZE_PART, SPANS_NUMBER_PART]),
    (spans_number, [SPANS_PART]),
    (nth_still, [SIZE_PART, STILL_NUMBER_PART]),
    (still_number, [STILL_PART]),
    (count_orders, [SPANS_PART]),
    (nth_order, [SPANS_PART, ORDER_NUMBER_PART]),
    (order_number, [ORDER_PART]),
    (rows_below, [SPANS_PART, BELOW_PART]),
    (relation, [SPANS_PART, PLACE_PART, OTHER_PART]),
    (is_certain, [SPANS_PART, PLACE_PART, OTHER_PART]),
    (example_with, [SPANS_PART, PLACE_PART, OTHER_PART, SIGN_PART]),
    (weights_of, [ROW_PART]),
    (weighted_needed, [ROW_PART, WEIGHTS_PART]),
    (weighted_after, [ROW_PART, WEIGHTS_PART]),
    (after_weighted, [ROW_PART, WEIGHTS_PART, ROUNDS_PART]),
    (long_after, [BLOCKS_PART]),
    (after_long, [BLOCKS_PART, ROUNDS_PART]),
    (long_entry, [BLOCKS_PART, LONG_PLACE_PART]),
    (entry_of_long, [BLOCKS_PART, LONG_PLACE_PART, ROUNDS_PART]),
    (long_count, [BLOCKS_PART, ANY_ENTRY_PART]),
    (count_of_long, [BLOCKS_PART, ANY_ENTRY_PART, ROUNDS_PART]),
    (long_needed, [BLOCKS_PART]),
    (LiveRow, [ROW_PART]),
    (still_live, [SIZE_PART, STILL_NUMBER_PART]),
    (play, [PLAY_PART]),
    (put, [PUT_PART, ENTRY_PART]),
    (take, [PLACE_PART]),
    (change, [PLACE_PART, ENTRY_PART]),
    (preview, [OPERATION_PART, OPERATION_PART]),
    (show_row, [ROW_PART]),
    (read_row, [TEXT_PART]),
    (say, [COMMAND_PART]),
]


class OfEachFunction(unittest.TestCase):
    def check(self, error, function, *values):
        with self.assertRaises(ValueError, msg=(function, values)) as caught:
            function(*values)
        self.assertIs(type(caught.exception), error, (function, values))

    def test_valid_arguments_raise_nothing(self):
        for function, parts in FUNCTIONS:
            function(*[valid for _, valid, _ in parts])

    def test_one_invalid_argument(self):
        for function, parts in FUNCTIONS:
            for number, (error, _, invalid) in enumerate(parts):
                values = [valid for _, valid, _ in parts]
                for value in invalid:
                    values[number] = value
                    self.check(error, function, *values)

    def test_several_at_once_raise_the_first_one_listed(self):
        for function, parts in FUNCTIONS:
            for one, two in itertools.combinations(range(len(parts)), 2):
                values = [valid for _, valid, _ in parts]
                for values[one], values[two] in itertools.product(parts[one][2], parts[two][2]):
                    self.check(parts[one][0], function, *values)

    def test_all_at_once_raise_the_first_one_listed(self):
        for function, parts in FUNCTIONS:
            for number in range(len(parts)):
                values = [valid for _, valid, _ in parts[:number]] + [invalid[0] for _, _, invalid in parts[number:]]
                self.check(parts[number][0], function, *values)

    def test_all_places_of_a_row_and_none_beyond(self):
        for length in samples.LENGTHS:
            row = (1,) * length
            for function in [hinderer, span_of, rounds_at, parent_of, children_of, stretch_of]:
                for place in range(length):
                    function(row, place)
                for place in samples.no_places(length):
                    # Places beyond the short rows may be places of the long ones.
                    if type(place) is not int or not 0 <= place < length:
                        self.check(InvalidPlace, function, row, place)

    def test_all_sizes(self):
        for size in range(1, 101):
            most_rounds(size)
            slowest_row(size)

    def test_rounds_at_the_limits(self):
        for rounds in [0, 1, GREATEST]:
            row_after(ROW, rounds=rounds)
        for rounds in [-1, GREATEST + 1]:
            self.check(InvalidRounds, after, ROW, rounds)

    def test_entries_at_the_limits(self):
        row = (GREATEST, -GREATEST) * 3
        for function, parts in FUNCTIONS:
            if parts[0] is ROW_PART:
                function(row, *[row if part is ROW_PART else part[1] for part in parts[1:]])
                if WEIGHTS_PART not in parts:
                    function(row * 16, *[row * 16 if part is ROW_PART else part[1] for part in parts[1:]])

    def test_not_alike(self):
        self.check(NotAlike, meeting, ROW, ROW[:-1])
        self.check(NotAlike, meeting, ROW[:-1], ROW)
        self.check(NotAlike, meeting, (1,), (1,) * 100)
        self.check(NotAlike, meeting, (1,) * 100, (1,) * 99)

    def test_not_alike_comes_last(self):
        self.check(InvalidRow, meeting, (1,) * 101, (1,))
        self.check(InvalidRow, meeting, (1,), (1,) * 101)
        self.check(InvalidRow, meeting, (1,), ())
        self.check(InvalidRow, meeting, (), ())
        self.check(InvalidRow, meeting, [1], [1])

    def test_a_row_that_is_no_span_row_is_not_an_invalid_row(self):
        for row in samples.NO_SPANS_BUT_ROWS:
            self.check(NotSpans, roots_of, row)

    def test_span_rows_with_one_entry_changed(self):
        rows = samples.changed_span_rows()
        self.assertGreater(len(rows), 100)
        for function, parts in FUNCTIONS:
            if parts[0] is SPANS_PART:
                for row in rows:
                    self.check(NotSpans, function, row, *[valid for _, valid, _ in parts[1:]])

    def test_rows_that_are_not_still(self):
        for row in samples.NO_STILL:
            self.check(NotStill, still_number, row)

    def test_not_still_comes_last(self):
        for row in [(4, 2, True), [4, 2, 3], (1, 1, 2) + (1,) * 98, (1, GREATEST + 1)]:
            self.check(InvalidRow, still_number, row)

    def test_long_orders_with_one_integer_changed(self):
        for length in [2, 50, 100]:
            order = tuple(range(length))
            for place in {0, 1, length // 2, length - 1}:
                for integer in [-1, length, length + 1, (place + 1) % length, GREATEST, True, False, None, "0", (0,)]:
                    self.check(InvalidOrder, order_number, order[:place] + (integer,) + order[place + 1:])
                self.check(InvalidOrder, order_number, order[:place] + order[place + 1:] + (length,))

    def test_numbers_at_both_ends(self):
        for size in [1, 2, 3, 50, 99, 100]:
            spans = nth_spans(size, count_spans(size) // 2)
            cases = [(nth_spans, size, count_spans(size)), (nth_still, size, count_still(size))]
            for function, first, count in cases + [(nth_order, spans, count_orders(spans))]:
                for number in {0, count // 2, count - 1}:
                    function(first, number)
                for number in samples.no_numbers(count):
                    self.check(InvalidNumber, function, first, number)

    def test_numbers_of_another_size(self):
        self.check(InvalidNumber, nth_spans, 5, 131)
        self.check(InvalidNumber, nth_still, 5, 48)
        self.check(InvalidNumber, nth_order, (1, 1, 2, 1, 2), 7)
        # The number of the last span row is none of a still row.
        self.check(InvalidNumber, nth_still, 6, 131)

    def test_bounds_at_both_ends(self):
        for spans in [(1,), SPANS, (1,) * 100]:
            for below in [1, 2, GREATEST - 1, GREATEST]:
                rows_below(spans, below)
            for below in samples.NO_BELOWS:
                self.check(InvalidBelow, rows_below, spans, below)

    def test_weights_at_both_ends(self):
        for length in samples.LENGTHS:
            row = (GREATEST,) * length
            for weights in [(1,) * length, (GREATEST_WEIGHT,) * length]:
                weighted_needed(row, weights)
                for rounds in [0, 1, GREATEST]:
                    weighted_after(row, weights, rounds=rounds)
            for weights in [(1,) * (length - 1), (1,) * (length + 1), [1] * length]:
                self.check(InvalidWeights, weighted_needed, row, weights)
                self.check(InvalidWeights, after_weighted, row, weights, -1)

    def test_pairs_of_places_at_both_ends(self):
        for length in samples.LENGTHS:
            spans = (1,) * length
            for function in [relation, is_certain, lambda *values: example_with(*values, "=")]:
                for one, two in itertools.permutations(sorted({0, length // 2, length - 1}), 2):
                    function(spans, one, two)
                for place in samples.no_places(length):
                    if type(place) is not int or not 0 <= place < length:
                        self.check(InvalidPlace, function, spans, place, 0)
                        self.check(InvalidPlace, function, spans, 0, place)
                        self.check(InvalidPlace, function, spans, place, place)
                for place in {0, length // 2, length - 1}:
                    self.check(InvalidPlace, function, spans, place, place)

    def test_the_same_place_is_judged_before_the_sign(self):
        for sign in samples.NO_SIGNS + ["<", "=", ">"]:
            self.check(InvalidPlace, example_with, SPANS, 3, 3, sign)

    def test_an_invalid_sign_where_no_row_could_be(self):
        for sign in samples.NO_SIGNS:
            self.check(InvalidSign, example_with, (1, 2), 0, 1, sign)

    def test_blocks_and_places_at_both_ends(self):
        for entry, count, many in itertools.product([GREATEST, -GREATEST, 0], [1, GREATEST_COUNT], [1, 2, 200]):
            blocks, size = ((entry, count),) * many, count * many
            for rounds in [0, 1, GREATEST]:
                after_long(blocks, rounds)
                for place in {0, size // 2, size - 1}:
                    entry_of_long(blocks, place, rounds)
                for wanted in [0, entry, GREATEST + 1, -GREATEST - 1, 10 ** 199, -10 ** 199]:
                    count_of_long(blocks, wanted, rounds)
            long_needed(blocks)
            for place in [-1, -size, size, size + 1, 10 ** 199, True, None]:
                self.check(InvalidPlace, long_entry, blocks, place)
                self.check(InvalidPlace, entry_of_long, blocks, place, -1)
        for function, parts in FUNCTIONS:
            if parts[0] is BLOCKS_PART:
                for blocks in [((1, 1),) * 201, ((GREATEST + 1, 1),), ((1, GREATEST_COUNT + 1),), ((1, 0),)]:
                    self.check(InvalidBlocks, function, blocks, *[invalid[0] for _, _, invalid in parts[1:]])

    def test_is_blocks_raises_nothing(self):
        for value in samples_long.NO_BLOCKS + samples.NO_SPANS + samples.NO_INTEGERS:
            self.assertIs(is_blocks(value), False, value)

    def test_is_weights_raises_nothing_but_for_the_row(self):
        for value in samples.NO_WEIGHTS + samples.NO_ROWS:
            is_weights(ROW, value)
            self.check(InvalidRow, is_weights, [9, 7, 8, 5, 6, 4], value)

    def test_is_row_and_is_spans_raise_nothing(self):
        for value in samples.NO_SPANS + samples.NO_BRACKETS + samples.NO_INTEGERS:
            is_row(value)
            is_spans(value)


class Unchanged(unittest.TestCase):
    def test_arguments_are_not_changed(self):
        for function, parts in FUNCTIONS:
            for number, (_, _, invalid) in enumerate(parts):
                values = [valid for _, valid, _ in parts]
                for values[number] in invalid:
                    before = copy.deepcopy(values)
                    self.assertRaises(ValueError, function, *values)
                    self.assertEqual([type(value) for value in values], [type(value) for value in before])
                    self.assertEqual(values, before)
            values = [valid for _, valid, _ in parts]
            before = copy.deepcopy(values)
            function(*values)
            self.assertEqual(values, before)

    def test_any_value_is_not_changed(self):
        for value in samples.NO_SPANS + samples_long.NO_BLOCKS:
            before = copy.deepcopy(value)
            is_row(value)
            is_spans(value)
            is_weights(ROW, value)
            is_blocks(value)
            self.assertEqual((type(value), value), (type(before), before))

    def test_equal_arguments_give_equal_results(self):
        for function, parts in FUNCTIONS:
            valid = [valid for _, valid, _ in parts]
            self.assertEqual(function(*valid), function(*copy.deepcopy(valid)), function)

    def test_an_error_does_not_change_later_answers(self):
        for function, parts in FUNCTIONS:
            valid = [valid for _, valid, _ in parts]
            before = function(*valid)
            for number, (_, _, invalid) in enumerate(parts):
                for value in invalid:
                    self.assertRaises(ValueError, function, *valid[:number], value, *valid[number + 1:])
            self.assertEqual(function(*valid), before)

    def test_a_returned_list_is_new(self):
        spans = (1, 1, 3, 1, 2, 1)
        for function, expected in [(lambda: children_of(spans, 2), [0, 1]), (lambda: roots_of(spans), [2, 4, 5])]:
            found = function()
            self.assertEqual(found, expected)
            found.append("changed")
            found[0] = None
            self.assertEqual(function(), expected)
            self.assertIsNot(function(), function())
        self.assertEqual(spans, (1, 1, 3, 1, 2, 1))

    def test_an_empty_list_is_new_too(self):
        children_of((1, 1), 0).append("changed")
        self.assertEqual(children_of((1, 1), 0), [])


if __name__ == "__main__":
    unittest.main()
