"""Section 12: live rows, against a plain list that the test changes itself."""

import copy
import itertools
import random
import unittest
import unittest.mock

import reference
import samples
from reference_live import Model, perform, some_operation
from samples import GREATEST
from spanrounds.console import Console
from spanrounds.counting import count_still, nth_still
from spanrounds.errors import (
    Full,
    InvalidEntry,
    InvalidNumber,
    InvalidOperation,
    InvalidPlace,
    InvalidRounds,
    InvalidRow,
    InvalidSize,
    Nothing,
)
from spanrounds.live import LiveRow


class LiveCase(unittest.TestCase):
    def check(self, live, model):
        """Compare all that a live row tells with the list."""
        row = tuple(model.entries)
        self.assertEqual(live.row, row)
        self.assertEqual(live.spans, reference.after_round(row))
        self.assertIs(live.stands, reference.after_round(row) == row)
        self.assertEqual(len(live), len(row))
        self.assertEqual(live.log(), model.operations)
        self.assertTrue(live == LiveRow(row))

    def check_error(self, error, function, *values, **named):
        with self.assertRaises(ValueError, msg=(values, named)) as caught:
            function(*values, **named)
        self.assertIs(type(caught.exception), error, (values, named))


class Created(LiveCase):
    def test_what_it_tells(self):
        for row in samples.long_rows() + samples.long_span_rows() + list(samples.small_rows(3)):
            self.check(LiveRow(row), Model(row))
            self.check(LiveRow.of(*row), Model(row))

    def test_limit(self):
        self.assertEqual([LiveRow.LIMIT, LiveRow.of(1).LIMIT], [100, 100])
        self.assertIs(type(LiveRow.LIMIT), int)

    def test_stands(self):
        for row in [(1,), (1, 2), (1, 1, 3), (1,) * 100, tuple(range(1, 101))]:
            self.assertIs(LiveRow(row).stands, True)
        for row in [(0,), (2,), (2, 1), (1, 1, 2), (1,) * 99 + (2,), (1, 2, 1, 3)]:
            self.assertIs(LiveRow(row).stands, False)

    def test_kinds(self):
        live = LiveRow.of(4, 2, 3)
        self.assertEqual([type(live.row), type(live.spans), type(live.log())], [tuple, tuple, list])
        self.assertIs(type(LiveRow.of(4, 2)), LiveRow)
        self.assertIs(type(LiveRow.still(3)), LiveRow)

    def test_no_row(self):
        for value in samples.NO_ROWS:
            self.check_error(InvalidRow, LiveRow, value)

    def test_of_no_entries_or_of_others(self):
        for entries in [(), (1,) * 101, (GREATEST + 1,), (1, -GREATEST - 1), (True,), (1, False), (None,), ((4, 2),),
                        ([4, 2],), ("4",), (4, "2"), ({},), (b"4",)]:
            self.check_error(InvalidRow, LiveRow.of, *entries)

    def test_still(self):
        for size in range(1, 7):
            self.check(LiveRow.still(size), Model((1,) * size))
            for number, row in enumerate(reference.still_rows(size)):
                live = LiveRow.still(size, number=number)
                self.check(live, Model(row))
                self.assertIs(live.stands, True)

    def test_long_still_ones(self):
        for size in [7, 50, 99, 100]:
            for number in samples.numbers_among(count_still(size)):
                live = LiveRow.still(size, number=number)
                self.assertEqual([live.row, live.stands, live.log()], [nth_still(size, number), True, []])

    def test_still_of_no_size_or_number(self):
        for size in samples.NO_SIZES:
            for number in [0, 1, -1, True, None, "1"]:
                self.check_error(InvalidSize, LiveRow.still, size, number=number)
            self.check_error(InvalidSize, LiveRow.still, size)
        for size in [1, 2, 6, 100]:
            for number in samples.no_numbers(count_still(size)):
                self.check_error(InvalidNumber, LiveRow.still, size, number=number)

    def test_two_of_one_row_know_nothing_of_each_other(self):
        row = (4, 2, 3)
        one, two = LiveRow(row), LiveRow(row)
        one.put(0, 9)
        one.play()
        self.check(two, Model(row))
        two.take(2)
        self.assertEqual([one.log(), two.log()], [[("put", 0, 9), ("play", 1)], [("take", 2)]])
        self.assertEqual(row, (4, 2, 3))

    def test_entries_given_in_a_list_that_changes(self):
        entries = [4, 2, 3]
        live = LiveRow.of(*entries)
        entries[0] = 9
        entries.append(1)
        self.check(live, Model((4, 2, 3)))


class Operations(LiveCase):
    def check_sequence(self, row, operations):
        """Perform operations, comparing at each step, then undo them all."""
        live, model = LiveRow(row), Model(row)
        for operation in operations:
            expected = model.perform(operation)
            found = perform(live, operation)
            self.assertEqual((type(found), found), (type(expected), expected), operation)
            self.check(live, model)
        while model.operations:
            model.undo()
            self.assertIs(live.undo(), None)
            self.check(live, model)
        self.check_error(Nothing, live.undo)
        self.check(live, Model(row))

    def test_each_of_them_at_each_place(self):
        for row in [(5,), (4, 2), (4, 2, 3), (7, 8, 9, 5, 6, 4, 2, 3)]:
            for rounds in [1, 2, 3, 4, 5, 100, GREATEST]:
                self.check_sequence(row, [("play", rounds)])
            for entry in [0, 3, -GREATEST, GREATEST]:
                for place in range(len(row)):
                    self.check_sequence(row, [("change", place, entry)])
                for place in range(len(row) + 1):
                    self.check_sequence(row, [("put", place, entry)])
            for place in range(len(row)):
                if len(row) > 1:
                    self.check_sequence(row, [("take", place)])

    def test_all_short_sequences(self):
        for operations in itertools.product(
            [("play", 1), ("play", GREATEST), ("put", 0, 4), ("put", 2, 1), ("take", 1), ("change", 0, 2)], repeat=3
        ):
            size = 3
            for operation in operations:
                size += {"put": 1, "take": -1}.get(operation[0], 0)
                if size < 2:
                    break
            else:
                self.check_sequence((3, 1, 2), operations)

    def test_sequences_with_undo_back_to_the_beginning(self):
        for row in samples.long_rows()[::3]:
            chance, size, operations = random.Random(len(row)), len(row), []
            for _ in range(12):
                operations.append(some_operation(chance, size))
                size += {"put": 1, "take": -1}.get(operations[-1][0], 0)
            self.check_sequence(row, operations)

    def test_sequences_with_undo_in_between(self):
        for seed, row in enumerate(samples.long_rows()[::5] + [(1,), (3, 3), (4, 2, 3)]):
            chance, live, model = random.Random(seed), LiveRow(row), Model(row)
            for _ in range(40):
                if chance.randrange(3) == 0:
                    if model.operations:
                        model.undo()
                        live.undo()
                    else:
                        self.check_error(Nothing, live.undo)
                else:
                    operation = some_operation(chance, len(model.entries))
                    self.assertEqual(perform(live, operation), model.perform(operation))
                self.check(live, model)

    def test_undo_and_the_same_or_another_one_again(self):
        live = LiveRow.of(4, 2, 3)
        live.put(3, 9)
        live.undo()
        live.put(3, 8)
        live.play()
        live.undo()
        live.undo()
        live.take(0)
        self.assertEqual([live.row, live.log()], [(2, 3), [("take", 0)]])
        live.undo()
        self.assertEqual([live.row, live.log()], [(4, 2, 3), []])
        self.check_error(Nothing, live.undo)

    def test_undo_of_operations_that_change_nothing(self):
        live = LiveRow.of(1, 1)
        live.play(rounds=5)
        live.change(0, 1)
        self.assertEqual([live.row, live.log()], [(1, 1), [("play", 5), ("change", 0, 1)]])
        live.undo()
        self.assertEqual([live.row, live.log()], [(1, 1), [("play", 5)]])
        live.undo()
        self.check_error(Nothing, live.undo)

    def test_200_calls_that_change_one_live_row(self):
        for row, share in [((5,) * 50, 0), ((1, 2, 3), 4), ((GREATEST,) * 100, 3)]:
            chance, live, model = random.Random(200 + share), LiveRow(row), Model(row)
            for _ in range(200):
                if share and chance.randrange(share) == 0 and model.operations:
                    model.undo()
                    live.undo()
                else:
                    operation = some_operation(chance, len(model.entries))
                    self.assertEqual(perform(live, operation), model.perform(operation))
                self.assertEqual([live.row, live.log()], [tuple(model.entries), model.operations])
            self.check(live, model)

    def test_100_operations_and_100_undos(self):
        live, model = LiveRow.of(0), Model((0,))
        for number in range(100):
            operation = ("put", number // 2, number % 7) if number < 99 else ("play", 3)
            model.perform(operation)
            perform(live, operation)
        self.check(live, model)
        self.assertEqual(len(live), 100)
        for _ in range(100):
            live.undo()
        self.check(live, Model((0,)))

    def test_play_returns_the_new_row(self):
        for row in samples.long_rows():
            live = LiveRow(row)
            self.assertEqual(live.play(), reference.after_round(row))
            self.assertEqual(live.play(rounds=2), reference.after_rounds(row, 3))
            self.assertEqual(live.play(rounds=GREATEST), reference.rows_to_still(row)[-1])
            self.assertEqual(live.log(), [("play", 1), ("play", 2), ("play", GREATEST)])
            self.assertIs(live.stands, True)


class Errors(LiveCase):
    def check_no_change(self, row, error, word, *values, **named):
        """The error is raised, and nothing else happens."""
        live = LiveRow(row)
        live.change(0, row[0])
        self.check_error(error, getattr(live, word), *values, **named)
        self.assertEqual([live.row, live.log()], [row, [("change", 0, row[0])]])
        live.undo()
        self.check(live, Model(row))

    def test_play(self):
        for rounds in [0] + samples.NO_ROUNDS:
            self.check_no_change((4, 2, 3), InvalidRounds, "play", rounds=rounds)
            self.check_no_change((1,) * 100, InvalidRounds, "play", rounds=rounds)
        for rounds in [1, 2, GREATEST - 1, GREATEST]:
            LiveRow.of(4, 2, 3).play(rounds=rounds)

    def test_put(self):
        for row in [(4,), (4, 2, 3), (5,) * 99]:
            for place in samples.no_places(len(row) + 1):
                if type(place) is not int or not 0 <= place <= len(row):
                    for entry in [1, GREATEST + 1, None]:
                        self.check_no_change(row, InvalidPlace, "put", place, entry)
            for entry in samples.NO_ENTRIES:
                for place in [0, len(row)]:
                    self.check_no_change(row, InvalidEntry, "put", place, entry)

    def test_put_into_a_full_row(self):
        for row in [(5,) * 100, tuple(range(100))]:
            for place in [0, 50, 99, 100]:
                for entry in [1, GREATEST, -GREATEST]:
                    self.check_no_change(row, Full, "put", place, entry)
                for entry in samples.NO_ENTRIES:
                    self.check_no_change(row, InvalidEntry, "put", place, entry)
            for place in samples.no_places(101):
                if place != 100:
                    for entry in [1, GREATEST + 1, True]:
                        self.check_no_change(row, InvalidPlace, "put", place, entry)

    def test_put_up_to_the_limit(self):
        live = LiveRow((5,) * 98)
        live.put(98, 1)
        live.put(0, 2)
        self.check_error(Full, live.put, 0, 3)
        self.assertEqual(live.row, (2,) + (5,) * 98 + (1,))
        live.take(50)
        live.put(99, 3)
        self.check_error(Full, live.put, 100, 3)
        live.undo()
        live.put(50, 4)
        self.assertEqual([live.row, len(live)], [(2,) + (5,) * 49 + (4,) + (5,) * 48 + (1,), 100])

    def test_take(self):
        for row in [(4, 2), (4, 2, 3), (5,) * 100]:
            for place in samples.no_places(len(row)):
                if type(place) is not int or not 0 <= place < len(row):
                    self.check_no_change(row, InvalidPlace, "take", place)

    def test_take_the_only_entry(self):
        for row in [(4,), (1,), (-GREATEST,)]:
            for place in [0] + samples.no_places(1):
                self.check_no_change(row, InvalidPlace, "take", place)
        live = LiveRow.of(4, 2)
        self.assertEqual(live.take(1), 2)
        self.check_error(InvalidPlace, live.take, 0)
        self.assertEqual([live.row, live.log()], [(4,), [("take", 1)]])

    def test_change(self):
        for row in [(4,), (4, 2, 3), (5,) * 100]:
            for place in samples.no_places(len(row)):
                if type(place) is not int or not 0 <= place < len(row):
                    for entry in [1, GREATEST + 1, "1"]:
                        self.check_no_change(row, InvalidPlace, "change", place, entry)
            for entry in samples.NO_ENTRIES:
                for place in [0, len(row) - 1]:
                    self.check_no_change(row, InvalidEntry, "change", place, entry)

    def test_undo(self):
        for live in [LiveRow.of(4), LiveRow((1,) * 100), LiveRow.still(5, number=3)]:
            row = live.row
            self.check_error(Nothing, live.undo)
            self.check_error(Nothing, live.undo)
            self.check(live, Model(row))

    def test_an_error_is_not_undone(self):
        live = LiveRow.of(4, 2, 3)
        live.take(1)
        self.check_error(InvalidPlace, live.put, 3, 1)
        self.check_error(InvalidRounds, live.play, rounds=0)
        self.check_error(InvalidPlace, live.take, 2)
        self.check_error(InvalidEntry, live.change, 0, None)
        live.undo()
        self.assertEqual([live.row, live.log()], [(4, 2, 3), []])


# Operations that a live row of three entries can't perform, with their errors.
FAILING = [
    (InvalidRounds, ("play", 0)), (InvalidRounds, ("play", GREATEST + 1)), (InvalidRounds, ("play", True)),
    (InvalidRounds, ("play", None)), (InvalidRounds, ("play", [])), (InvalidRounds, ("play", ("play", 1))),
    (InvalidPlace, ("put", 4, 1)), (InvalidPlace, ("put", -1, 1)), (InvalidPlace, ("put", "0", "1")),
    (InvalidPlace, ("put", False, 1)), (InvalidPlace, ("put", None, None)), (InvalidEntry, ("put", 3, GREATEST + 1)),
    (InvalidEntry, ("put", 0, True)), (InvalidEntry, ("put", 0, [1])), (InvalidPlace, ("take", 3)),
    (InvalidPlace, ("take", -1)), (InvalidPlace, ("take", {})), (InvalidPlace, ("change", 3, 1)),
    (InvalidPlace, ("change", [], [])), (InvalidEntry, ("change", 2, -GREATEST - 1)),
    (InvalidEntry, ("change", 0, "1")),
]


class Preview(LiveCase):
    def check_preview(self, live, model, operations):
        """Compare with the list, and with a live row that performs the operations."""
        trial, other = LiveRow(live.row), Model(live.row)
        for operation in operations:
            perform(trial, operation)
            other.perform(operation)
        before = copy.deepcopy(operations)
        found = live.preview(*operations)
        self.assertEqual((type(found), found), (tuple, tuple(other.entries)))
        self.assertEqual([found, live.preview(*operations)], [trial.row, found])
        self.assertEqual(operations, before)
        self.check(live, model)

    def check_failing(self, live, error, operations):
        row, log = live.row, live.log()
        self.check_error(error, live.preview, *operations)
        self.assertEqual([live.row, live.log()], [row, log])

    def test_up_to_12_operations(self):
        chance = random.Random(12)
        for row in samples.long_rows()[::4]:
            live, model = LiveRow(row), Model(row)
            for many in range(13):
                size, operations = len(live), []
                for _ in range(many):
                    operations.append(some_operation(chance, size))
                    size += {"put": 1, "take": -1}.get(operations[-1][0], 0)
                self.check_preview(live, model, operations)
                operation = some_operation(chance, len(live))
                perform(live, operation)
                model.perform(operation)

    def test_each_form_alone(self):
        live = LiveRow.of(4, 2, 3)
        for operation in [("play", 1), ("play", GREATEST), ("put", 0, 9), ("put", 3, 9), ("take", 0), ("take", 2),
                          ("change", 0, 9), ("change", 2, -GREATEST), ("put", 1, GREATEST)]:
            self.check_preview(live, Model((4, 2, 3)), [operation])

    def test_of_nothing(self):
        live = LiveRow.of(4, 2, 3)
        self.assertEqual([live.preview(), live.row, live.log()], [(4, 2, 3), (4, 2, 3), []])

    def test_of_its_own_log(self):
        live = LiveRow.of(4, 2, 3)
        operations = [("put", 2, 7), ("play", 2), ("take", 0), ("change", 1, 5)]
        for operation in operations:
            perform(live, operation)
        self.assertEqual(LiveRow.of(4, 2, 3).preview(*live.log()), live.row)
        self.assertEqual(live.log(), operations)

    def test_an_error_at_each_operation(self):
        good = [("put", 1, 5), ("play", 1), ("take", 0), ("change", 0, 8)] * 3
        for at in range(12):
            size = 3 + (at % 4 in [1, 2])
            for error, operation in FAILING:
                if operation[0] in ["put", "take", "change"] and operation[1] in [3, 4] and error is InvalidPlace:
                    operation = (operation[0], size + (operation[0] == "put")) + operation[2:]
                live = LiveRow.of(4, 2, 3)
                live.change(0, 6)
                for behind in [good[at + 1:], [FAILING[0][1]] * (11 - at), [("take", None)] * (11 - at)]:
                    self.check_failing(live, error, good[:at] + [operation] + behind)
                live.undo()
                self.check(live, Model((4, 2, 3)))

    def test_the_first_error_counts(self):
        live = LiveRow.of(4, 2, 3)
        for (error, one), (_, two) in itertools.product(FAILING, repeat=2):
            self.check_failing(live, error, [one, two])

    def test_an_error_that_comes_with_an_earlier_operation(self):
        self.check_failing(LiveRow.of(4, 2), InvalidPlace, [("take", 0), ("take", 1)])
        self.check_failing(LiveRow.of(4, 2), InvalidPlace, [("take", 0), ("take", 0)])
        self.check_failing(LiveRow((5,) * 99), Full, [("put", 0, 1), ("put", 0, 1)])
        self.check_failing(LiveRow((5,) * 100), Full, [("put", 100, 1), ("take", 100)])
        self.check_failing(LiveRow((5,) * 100), InvalidEntry, [("put", 100, None)])
        live = LiveRow((5,) * 99)
        self.assertEqual(len(live.preview(("put", 99, 1))), 100)
        self.assertEqual(len(live.preview(("put", 99, 1), ("take", 0), ("put", 0, 1))), 100)

    def test_no_operations_of_a_form(self):
        live = LiveRow.of(4, 2, 3)
        for value in samples.NO_OPERATIONS:
            self.check_failing(live, InvalidOperation, [value])

    def test_the_forms_are_looked_at_before_anything_is_performed(self):
        live = LiveRow.of(4, 2, 3)
        live.play()
        for value in samples.NO_OPERATIONS:
            self.check_failing(live, InvalidOperation, [("play", 1), ("put", 0, 1), value])
            self.check_failing(live, InvalidOperation, [value, ("play", 1)])
            self.check_failing(live, InvalidOperation, [("play", 1)] * 11 + [value])
            for _, operation in FAILING[::4]:
                self.check_failing(live, InvalidOperation, [operation, value])
                self.check_failing(live, InvalidOperation, [value, operation])

    def test_items_behind_the_first_one_do_not_make_the_form_invalid(self):
        live = LiveRow.of(4, 2, 3)
        for value in samples.NO_INTEGERS:
            self.check_failing(live, InvalidRounds, [("play", value)])
            self.check_failing(live, InvalidPlace, [("put", value, value)])
            self.check_failing(live, InvalidEntry, [("put", 0, value)])
            self.check_failing(live, InvalidPlace, [("take", value)])
            self.check_failing(live, InvalidPlace, [("change", value, value)])
            self.check_failing(live, InvalidEntry, [("change", 0, value)])

    def test_undo_is_as_before(self):
        live = LiveRow.of(4, 2, 3)
        live.put(3, 9)
        live.preview(("play", 1), ("take", 0))
        self.check_error(InvalidPlace, live.preview, ("play", 1), ("take", 9))
        live.undo()
        self.check(live, Model((4, 2, 3)))
        self.check_error(Nothing, live.undo)

    def test_very_many_previews_of_one_live_row(self):
        live = LiveRow.of(4, 2, 3)
        for number in range(300):
            self.assertEqual(live.preview(("change", 2, number), ("play", 1))[:2], (1, 1))
        self.check(live, Model((4, 2, 3)))


class FromOutside(LiveCase):
    def test_a_returned_log_is_new(self):
        live = LiveRow.of(4, 2)
        live.put(2, 3)
        live.play()
        log = live.log()
        self.assertIsNot(live.log(), log)
        log.append(("take", 0))
        log[0] = None
        log.pop(1)
        self.assertEqual(live.log(), [("put", 2, 3), ("play", 1)])
        live.log().clear()
        self.assertEqual(live.log(), [("put", 2, 3), ("play", 1)])
        self.assertTrue(all(type(operation) is tuple for operation in live.log()))
        live.undo()
        self.assertEqual([live.row, live.log()], [(4, 2, 3), [("put", 2, 3)]])

    def test_an_empty_log_is_new_too(self):
        live = LiveRow.of(4, 2)
        live.log().append(("play", 1))
        self.assertEqual(live.log(), [])
        self.check_error(Nothing, live.undo)

    def test_a_log_that_was_returned_before_stays_as_it_was(self):
        live = LiveRow.of(4, 2)
        live.play()
        log = live.log()
        live.take(0)
        self.assertEqual(log, [("play", 1)])
        live.undo()
        live.undo()
        self.assertEqual(log, [("play", 1)])

    def test_properties_can_not_be_assigned(self):
        live = LiveRow.of(4, 2, 3)
        for name, value in [("row", (1, 2)), ("spans", (1, 2)), ("stands", True)]:
            self.assertRaises(AttributeError, setattr, live, name, value)
        self.check(live, Model((4, 2, 3)))

    def test_a_row_that_was_returned_before_stays_as_it_was(self):
        live = LiveRow.of(4, 2, 3)
        row, spans = live.row, live.spans
        live.play(rounds=2)
        live.put(0, 7)
        self.assertEqual([row, spans], [(4, 2, 3), (1, 1, 2)])

    def test_reading_changes_nothing(self):
        live = LiveRow.of(4, 2, 3)
        live.play()
        for _ in range(3):
            self.assertEqual([live.row, live.spans, live.stands, len(live)], [(1, 1, 2), (1, 1, 3), False, 3])
            self.assertEqual([live.log(), live == LiveRow.of(1, 1, 2)], [[("play", 1)], True])


class Equal(LiveCase):
    def check_equal(self, one, two, equal):
        self.assertIs(one == two, equal)
        self.assertIs(two == one, equal)
        self.assertIs(one != two, not equal)
        self.assertIs(two != one, not equal)

    def test_live_rows(self):
        rows = list(samples.small_rows(2)) + [(1,), (1, 1, 1), (2,), (1,) * 100, (1,) * 99]
        for one, two in itertools.product(rows, repeat=2):
            self.check_equal(LiveRow(one), LiveRow.of(*two), one == two)

    def test_the_operations_do_not_matter(self):
        one, two = LiveRow.of(4, 2, 3), LiveRow.of(1, 1)
        one.play()
        two.put(2, 2)
        self.check_equal(one, two, True)
        self.assertNotEqual(one.log(), two.log())
        two.undo()
        self.check_equal(one, two, False)

    def test_rows_with_equal_spans_are_not_equal(self):
        self.check_equal(LiveRow.of(4, 2, 3), LiveRow.of(5, 2, 3), False)
        self.check_equal(LiveRow.of(1, 1), LiveRow.of(2, 2), False)

    def test_itself(self):
        live = LiveRow.of(4, 2)
        self.check_equal(live, live, True)

    def test_other_values(self):
        live = LiveRow.of(2, 1)
        console = Console()
        console.say("row 2 1")
        others = samples.NO_ROWS + samples.NO_INTEGERS + [
            (2, 1), [2, 1], "2 1", console, [live], (live,), {"row": (2, 1)}, {2: 1}, LiveRow, object(), 2, (1, 1),
            "ok",
        ]
        for value in others:
            self.check_equal(live, value, False)

    def test_a_value_that_is_equal_to_everything(self):
        live = LiveRow.of(2, 1)
        self.assertIs(live == unittest.mock.ANY, False)
        self.assertIs(live != unittest.mock.ANY, True)

    def test_a_value_that_looks_like_one(self):
        class Other:
            row = _row = (2, 1)
            spans = (1, 1)
            stands = False

            def log(self):
                return []

            def __len__(self):
                return 2

        self.check_equal(LiveRow.of(2, 1), Other(), False)

    def test_length(self):
        for length in [1, 2, 3, 50, 99, 100]:
            live = LiveRow((1,) * length)
            self.assertEqual(len(live), length)
            self.assertIs(type(len(live)), int)
            live.play()
            self.assertEqual(len(live), length)


if __name__ == "__main__":
    unittest.main()
