"""Section 15, and the errors of each function: the first one listed that applies, and no other."""

import copy
import itertools
import unittest

import samples
from samples import GREATEST, ROW, SPANS
from spanrounds import errors
from spanrounds.errors import (
    InvalidBrackets,
    InvalidPlace,
    InvalidRounds,
    InvalidRow,
    InvalidSize,
    NotAlike,
    NotSpans,
    SpanError,
)
from spanrounds.forests import (
    children_of,
    from_brackets,
    is_spans,
    parent_of,
    roots_of,
    stretch_of,
    to_brackets,
)
from spanrounds.rows import hinderer, is_row, row_after, rows_of, span_of
from spanrounds.settling import (
    final_row,
    is_still,
    meeting,
    most_rounds,
    rounds_at,
    rounds_needed,
    slowest_row,
)

NAMES = [
    "InvalidRow", "InvalidPlace", "InvalidRounds", "InvalidSize", "NotAlike", "NotSpans", "InvalidBrackets",
    "InvalidNumber", "NotStill", "InvalidOrder", "InvalidBelow", "InvalidSign", "InvalidWeights", "InvalidBlocks",
    "InvalidEntry", "Full", "Nothing", "InvalidOperation", "InvalidText", "InvalidCommand",
]


class Classes(unittest.TestCase):
    def test_span_error_is_a_value_error(self):
        self.assertEqual(SpanError.__bases__, (ValueError,))

    def test_direct_subclasses(self):
        self.assertEqual(sorted(found.__name__ for found in SpanError.__subclasses__()), sorted(NAMES))
        for name in NAMES:
            self.assertEqual(getattr(errors, name).__bases__, (SpanError,), name)

    def test_an_error_belongs_to_its_class_to_span_error_and_to_value_error(self):
        for name in NAMES + ["SpanError"]:
            error = getattr(errors, name)("told so")
            self.assertTrue(isinstance(error, SpanError) and isinstance(error, ValueError), name)
            for other in NAMES:
                self.assertIs(isinstance(error, getattr(errors, other)), other == name, (name, other))

    def test_they_take_a_message(self):
        for name in NAMES + ["SpanError"]:
            self.assertEqual(str(getattr(errors, name)("told so")), "told so")
            with self.assertRaises(ValueError) as caught:
                raise getattr(errors, name)("told so")
            self.assertIs(type(caught.exception), getattr(errors, name))


def after(row, rounds):
    return row_after(row, rounds=rounds)


def first_of(row):
    return next(rows_of(row))


ROW_PART = (InvalidRow, ROW, samples.NO_ROWS)
SPANS_PART = (NotSpans, SPANS, samples.NO_SPANS)
PLACE_PART = (InvalidPlace, 2, samples.no_places(6))
SIZE_PART = (InvalidSize, 6, samples.NO_SIZES)
ROUNDS_PART = (InvalidRounds, 2, samples.NO_ROUNDS)
BRACKETS_PART = (InvalidBrackets, "()", samples.NO_BRACKETS)

# Each function with its parameters, in the order in which their errors are listed:
# the error, a valid value, and values that raise the error.
FUNCTIONS = [
    (hinderer, [ROW_PART, PLACE_PART]),
    (span_of, [ROW_PART, PLACE_PART]),
    (row_after, [ROW_PART]),
    (after, [ROW_PART, ROUNDS_PART]),
    (first_of, [ROW_PART]),
    (is_still, [ROW_PART]),
    (final_row, [ROW_PART]),
    (rounds_needed, [ROW_PART]),
    (rounds_at, [ROW_PART, PLACE_PART]),
    (most_rounds, [SIZE_PART]),
    (slowest_row, [SIZE_PART]),
    (meeting, [ROW_PART, ROW_PART]),
    (parent_of, [SPANS_PART, PLACE_PART]),
    (children_of, [SPANS_PART, PLACE_PART]),
    (roots_of, [SPANS_PART]),
    (to_brackets, [SPANS_PART]),
    (from_brackets, [BRACKETS_PART]),
    (stretch_of, [SPANS_PART, PLACE_PART]),
]


class OfEachFunction(unittest.TestCase):
    def check(self, error, function, *values):
        with self.assertRaises(ValueError, msg=(function, values)) as caught:
            function(*values)
        self.assertIs(type(caught.exception), error, (function, values))

    def test_valid_arguments_raise_nothing(self):
        for function, parts in FUNCTIONS:
            function(*[valid for _, valid, _ in parts])

    def test_one_invalid_argument(self):
        for function, parts in FUNCTIONS:
            for number, (error, _, invalid) in enumerate(parts):
                values = [valid for _, valid, _ in parts]
                for value in invalid:
                    values[number] = value
                    self.check(error, function, *values)

    def test_several_at_once_raise_the_first_one_listed(self):
        for function, parts in FUNCTIONS:
            if len(parts) == 2:
                (error, _, invalid), (_, _, invalid_too) = parts
                for value, other in itertools.product(invalid, invalid_too):
                    self.check(error, function, value, other)

    def test_all_places_of_a_row_and_none_beyond(self):
        for length in samples.LENGTHS:
            row = (1,) * length
            for function in [hinderer, span_of, rounds_at, parent_of, children_of, stretch_of]:
                for place in range(length):
                    function(row, place)
                for place in samples.no_places(length):
                    # Places beyond the short rows may be places of the long ones.
                    if type(place) is not int or not 0 <= place < length:
                        self.check(InvalidPlace, function, row, place)

    def test_all_sizes(self):
        for size in range(1, 101):
            most_rounds(size)
            slowest_row(size)

    def test_rounds_at_the_limits(self):
        for rounds in [0, 1, GREATEST]:
            row_after(ROW, rounds=rounds)
        for rounds in [-1, GREATEST + 1]:
            self.check(InvalidRounds, after, ROW, rounds)

    def test_entries_at_the_limits(self):
        row = (GREATEST, -GREATEST) * 50
        for function, parts in FUNCTIONS:
            if parts[0] is ROW_PART:
                function(row, *[row if part is ROW_PART else part[1] for part in parts[1:]])

    def test_not_alike(self):
        self.check(NotAlike, meeting, ROW, ROW[:-1])
        self.check(NotAlike, meeting, ROW[:-1], ROW)
        self.check(NotAlike, meeting, (1,), (1,) * 100)
        self.check(NotAlike, meeting, (1,) * 100, (1,) * 99)

    def test_not_alike_comes_last(self):
        self.check(InvalidRow, meeting, (1,) * 101, (1,))
        self.check(InvalidRow, meeting, (1,), (1,) * 101)
        self.check(InvalidRow, meeting, (1,), ())
        self.check(InvalidRow, meeting, (), ())
        self.check(InvalidRow, meeting, [1], [1])

    def test_a_row_that_is_no_span_row_is_not_an_invalid_row(self):
        for row in samples.NO_SPANS_BUT_ROWS:
            self.check(NotSpans, roots_of, row)

    def test_is_row_and_is_spans_raise_nothing(self):
        for value in samples.NO_SPANS + samples.NO_BRACKETS + samples.NO_INTEGERS:
            is_row(value)
            is_spans(value)


class Unchanged(unittest.TestCase):
    def test_arguments_are_not_changed(self):
        for function, parts in FUNCTIONS:
            for _, _, invalid in parts[:1]:
                for value in invalid:
                    before = copy.deepcopy(value)
                    valid = [valid for _, valid, _ in parts[1:]]
                    self.assertRaises(ValueError, function, value, *valid)
                    self.assertEqual((type(value), value), (type(before), before))

    def test_any_value_is_not_changed(self):
        for value in samples.NO_SPANS:
            before = copy.deepcopy(value)
            is_row(value)
            is_spans(value)
            self.assertEqual((type(value), value), (type(before), before))

    def test_equal_arguments_give_equal_results(self):
        for function, parts in FUNCTIONS:
            valid = [valid for _, valid, _ in parts]
            self.assertEqual(function(*valid), function(*copy.deepcopy(valid)), function)

    def test_an_error_does_not_change_later_answers(self):
        for function, parts in FUNCTIONS:
            valid = [valid for _, valid, _ in parts]
            before = function(*valid)
            for value in parts[0][2]:
                self.assertRaises(ValueError, function, value, *valid[1:])
            self.assertEqual(function(*valid), before)

    def test_a_returned_list_is_new(self):
        spans = (1, 1, 3, 1, 2, 1)
        for function, expected in [(lambda: children_of(spans, 2), [0, 1]), (lambda: roots_of(spans), [2, 4, 5])]:
            found = function()
            self.assertEqual(found, expected)
            found.append("changed")
            found[0] = None
            self.assertEqual(function(), expected)
            self.assertIsNot(function(), function())
        self.assertEqual(spans, (1, 1, 3, 1, 2, 1))

    def test_an_empty_list_is_new_too(self):
        children_of((1, 1), 0).append("changed")
        self.assertEqual(children_of((1, 1), 0), [])


if __name__ == "__main__":
    unittest.main()
