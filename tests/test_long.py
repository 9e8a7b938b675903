"""Section 11 and point [14], with points [2] and [6]: long rows in blocks."""

import random
import unittest

import reference
import reference_long
import samples_long
from reference_long import fibonacci, most_rounds, size_of, slow_blocks, spread
from samples import GREATEST
from samples_long import BLOCKS, GREATEST_COUNT
from spanrounds.long import is_blocks, long_after, long_count, long_entry, long_needed


class IsBlocks(unittest.TestCase):
    def test_how_many(self):
        for many in [1, 2, 3, 100, 199, 200]:
            self.assertIs(is_blocks(((7, 5),) * many), True, many)
        for many in [0, 201, 202, 400]:
            self.assertIs(is_blocks(((7, 5),) * many), False, many)

    def test_greatest_and_least_counts(self):
        for count in [1, 2, 10 ** 9, GREATEST_COUNT - 1, GREATEST_COUNT]:
            for blocks in [((7, count),), ((7, 1), (7, count)), ((7, count), (3, 1)), ((7, count),) * 200]:
                self.assertIs(is_blocks(blocks), True, blocks)
        for count in [0, -1, GREATEST_COUNT + 1, GREATEST, 10 ** 199, -GREATEST_COUNT, True, False, None, "1", (1,)]:
            for blocks in [((7, count),), ((7, 1), (7, count)), ((7, count), (3, 1)), ((7, 1),) * 199 + ((7, count),)]:
                self.assertIs(is_blocks(blocks), False, blocks)

    def test_greatest_and_least_entries(self):
        for entry in [0, 1, -1, GREATEST - 1, GREATEST, 1 - GREATEST, -GREATEST]:
            for blocks in [((entry, 5),), ((7, 1), (entry, 5)), ((entry, 5), (7, 1)), ((entry, GREATEST_COUNT),) * 200]:
                self.assertIs(is_blocks(blocks), True, blocks)
        for entry in [GREATEST + 1, -GREATEST - 1, 10 ** 199, -10 ** 199, True, False, None, "1", (1,)]:
            for blocks in [((entry, 5),), ((7, 1), (entry, 5)), ((entry, 5), (7, 1)), ((7, 1),) * 199 + ((entry, 5),)]:
                self.assertIs(is_blocks(blocks), False, blocks)

    def test_any_other_value(self):
        for value in samples_long.NO_BLOCKS:
            self.assertIs(is_blocks(value), False, value)

    def test_all_kinds(self):
        for blocks in samples_long.middle_blocks() + samples_long.huge_blocks():
            self.assertIs(is_blocks(blocks), True, blocks)


class WrittenOut(unittest.TestCase):
    """Blocks of rows that the test writes out and plays place by place."""

    def check(self, blocks):
        rows = reference.rows_to_still(spread(blocks))
        for rounds in [0, 1, 2, 3, 4, GREATEST]:
            row = rows[min(rounds, len(rows) - 1)]
            self.assertEqual(long_after(blocks, rounds=rounds), reference_long.runs_of_row(row), (blocks, rounds))
            for place in self.places(row):
                self.assertEqual(long_entry(blocks, place, rounds=rounds), row[place], (blocks, place, rounds))
            for entry in self.entries(row):
                self.assertEqual(long_count(blocks, entry, rounds=rounds), row.count(entry), (blocks, entry, rounds))
        self.assertEqual(long_needed(blocks), len(rows) - 1, blocks)

    def places(self, row):
        return range(len(row))

    def entries(self, row):
        return {entry + step for entry in row for step in [-1, 0, 1]} | {0, GREATEST}

    def test_small_ones(self):
        for blocks in samples_long.small_blocks():
            self.check(blocks)

    def test_middle_ones(self):
        for blocks in samples_long.middle_blocks():
            self.check(blocks)

    def test_one_round_unless_told_otherwise(self):
        for blocks in samples_long.middle_blocks():
            row = reference.after_round(spread(blocks))
            self.assertEqual(long_after(blocks), reference_long.runs_of_row(row))
            self.assertEqual(long_entry(blocks, len(row) - 1), row[-1])
            self.assertEqual([long_count(blocks, entry) for entry in [1, row[-1]]], [row.count(1), row.count(row[-1])])

    def test_each_number_of_rounds_of_slow_rows(self):
        for most in range(1, 11):
            blocks = slow_blocks(most)
            row = spread(blocks)
            for rounds in range(most + 3):
                self.assertEqual(long_after(blocks, rounds=rounds), reference_long.runs_of_row(row))
                row = reference.after_round(row)

    def test_neighbours_with_equal_entries_are_one_run(self):
        for rounds in [0, 1, 2, GREATEST]:
            expected = long_after(((5, 10), (2, 6), (3, 1)), rounds=rounds)
            for blocks in [((5, 4), (5, 6), (2, 6), (3, 1)), ((5, 10), (2, 1), (2, 4), (2, 1), (3, 1))]:
                self.assertEqual(long_after(blocks, rounds=rounds), expected)
                self.assertEqual(long_needed(blocks), 2)
        self.assertEqual(long_after(((5, 1),) * 200, rounds=0), ((5, 200),))
        self.assertEqual(long_after(((5, GREATEST_COUNT),) * 200, rounds=0), ((5, 200 * GREATEST_COUNT),))

    def test_the_same_entries_apart_are_several_runs(self):
        self.assertEqual(long_after(((5, 1), (2, 1), (5, 1)), rounds=0), ((5, 1), (2, 1), (5, 1)))
        self.assertEqual(long_after(((5, 1), (2, 1), (5, 1))), ((1, 2), (2, 1)))


class TooLong(unittest.TestCase):
    """Blocks of rows that can't be written out, against runs that are found by walking back from each run."""

    @classmethod
    def setUpClass(cls):
        cls.cases = [(blocks, reference_long.runs_to_still(blocks)) for blocks in samples_long.huge_blocks()]

    def test_runs_after_all_numbers_of_rounds(self):
        for blocks, played in self.cases:
            some = {0, 1, 2, 3, len(played) // 2, len(played) - 2, len(played) - 1, len(played), GREATEST - 1, GREATEST}
            for rounds in sorted(some):
                if rounds >= 0:
                    self.assertEqual(long_after(blocks, rounds=rounds), played[min(rounds, len(played) - 1)], rounds)
            self.assertEqual(long_after(blocks), played[min(1, len(played) - 1)])

    def test_the_number_of_entries_stays(self):
        for blocks, played in self.cases:
            for rounds in [0, 1, 2, 5, GREATEST]:
                self.assertEqual(size_of(long_after(blocks, rounds=rounds)), size_of(blocks))

    def test_needed_is_the_number_of_rounds_that_change_something(self):
        for blocks, played in self.cases:
            needed = long_needed(blocks)
            self.assertEqual(needed, len(played) - 1)
            self.assertEqual(long_after(blocks, rounds=needed), long_after(blocks, rounds=needed + 1))
            if needed:
                self.assertNotEqual(long_after(blocks, rounds=needed - 1), long_after(blocks, rounds=needed))

    def test_no_row_needs_more_than_point_2_allows(self):
        for blocks, _ in self.cases:
            self.assertLessEqual(long_needed(blocks), most_rounds(size_of(blocks)))

    def test_some_rows_need_as_many_as_point_2_allows(self):
        for rounds in range(1, 101):
            blocks = slow_blocks(rounds)
            self.assertEqual([size_of(blocks), long_needed(blocks)], [fibonacci(rounds + 2), rounds])

    def test_rows_of_all_small_sizes_that_need_as_many(self):
        for size in range(2, 90):
            rounds = most_rounds(size)
            blocks = slow_blocks(rounds) + ((-10 ** 6, size - fibonacci(rounds + 2)),)
            blocks = tuple(block for block in blocks if block[1])
            self.assertEqual([size_of(blocks), long_needed(blocks)], [size, rounds])
        self.assertEqual([long_needed(((entry, 1),)) for entry in [0, 1, 2]], [1, 0, 1])

    def test_no_entry_gets_less_from_the_first_round_on(self):
        for blocks, played in self.cases:
            for rounds in [1, 2, 3, 10]:
                before, after = long_after(blocks, rounds=rounds), long_after(blocks, rounds=rounds + 1)
                self.assertTrue(all(old <= new for old, new in reference_long.steps(before, after)), blocks)

    def test_places_at_both_ends_of_runs(self):
        chance = random.Random(11)
        for blocks, played in self.cases:
            for rounds in [0, 1, 2, GREATEST]:
                runs = played[min(rounds, len(played) - 1)]
                ends = [0]
                for _, count in runs:
                    ends.append(ends[-1] + count)
                for at in {0, len(runs) - 1, chance.randrange(len(runs)), chance.randrange(len(runs))}:
                    for place in [ends[at], ends[at + 1] - 1, (ends[at] + ends[at + 1] - 1) // 2]:
                        self.assertEqual(long_entry(blocks, place, rounds=rounds), runs[at][0], (place, rounds))

    def test_one_round_unless_told_otherwise(self):
        for blocks, played in self.cases:
            runs = played[min(1, len(played) - 1)]
            self.assertEqual(long_entry(blocks, size_of(blocks) - 1), runs[-1][0])
            self.assertEqual(long_count(blocks, runs[-1][0]), size_of(run for run in runs if run[0] == runs[-1][0]))

    def test_counts_of_entries(self):
        chance = random.Random(12)
        for blocks, played in self.cases:
            for rounds in [0, 1, 2, GREATEST]:
                runs = played[min(rounds, len(played) - 1)]
                entry = chance.choice(runs)[0]
                for entry in [1, entry, entry + 1, runs[-1][0], 0, -1, GREATEST + 1, 10 ** 199, -10 ** 199]:
                    expected = sum(count for present, count in runs if present == entry)
                    self.assertEqual(long_count(blocks, entry, rounds=rounds), expected, (entry, rounds))

    def test_the_counts_of_all_entries_are_the_number_of_entries(self):
        for blocks, played in self.cases[::5]:
            for rounds in [0, 1, 2]:
                entries = {entry for entry, _ in long_after(blocks, rounds=rounds)}
                counts = [long_count(blocks, entry, rounds=rounds) for entry in entries]
                self.assertEqual(sum(counts), size_of(blocks))

    def test_rounds_one_by_one(self):
        for blocks, played in self.cases:
            if len(blocks) <= 50:
                runs = long_after(blocks, rounds=0)
                for _ in range(4):
                    # Runs can be more than blocks may be, and greater.
                    if not is_blocks(runs):
                        break
                    self.assertEqual(long_after(runs), reference_long.after_round(runs))
                    runs = long_after(runs)

    def test_the_greatest_of_all(self):
        blocks = ((-GREATEST, GREATEST_COUNT),) * 199 + ((GREATEST, GREATEST_COUNT),)
        front = 199 * GREATEST_COUNT
        runs = ((1, front), (front + 1, 1), (1, GREATEST_COUNT - 1))
        self.assertEqual([long_after(blocks, rounds=rounds) for rounds in [1, 2, GREATEST]], [runs] * 3)
        self.assertEqual(long_needed(blocks), 1)
        self.assertEqual([long_entry(blocks, place) for place in [front - 1, front, front + 1]], [1, front + 1, 1])
        self.assertEqual(long_count(blocks, 1), 200 * GREATEST_COUNT - 1)
        self.assertEqual([long_count(blocks, front + 1), long_count(blocks, front)], [1, 0])
        self.assertEqual(long_entry(blocks, 200 * GREATEST_COUNT - 1, rounds=0), GREATEST)

    def test_still_at_once(self):
        for blocks in [((1, 1),), ((1, GREATEST_COUNT),), ((1, GREATEST_COUNT),) * 200, ((1, 1), (2, 1), (1, 5))]:
            self.assertEqual(long_needed(blocks), 0)
            for rounds in [0, 1, GREATEST]:
                self.assertEqual(long_after(blocks, rounds=rounds), reference_long.joined(blocks))

    def test_a_greatest_span_at_the_end(self):
        blocks = ((0, GREATEST_COUNT),) * 100 + ((1, 1),)
        self.assertEqual(long_after(blocks), ((1, 100 * GREATEST_COUNT), (100 * GREATEST_COUNT + 1, 1)))
        self.assertEqual(long_needed(blocks), 1)


class Kinds(unittest.TestCase):
    def test_kinds(self):
        for blocks in [BLOCKS, ((7, GREATEST_COUNT),) * 200, slow_blocks(100)]:
            for rounds in [0, 1, 2, GREATEST]:
                runs = long_after(blocks, rounds=rounds)
                self.assertIs(type(runs), tuple)
                for run in runs:
                    self.assertIs(type(run), tuple)
                    self.assertEqual([type(part) for part in run], [int, int])
                self.assertIs(type(long_entry(blocks, 0, rounds=rounds)), int)
                self.assertIs(type(long_count(blocks, 1, rounds=rounds)), int)
            self.assertIs(type(long_needed(blocks)), int)

    def test_no_neighbouring_runs_are_equal_and_none_is_empty(self):
        for blocks in samples_long.middle_blocks() + samples_long.huge_blocks():
            for rounds in [0, 1, 2, 3]:
                runs = long_after(blocks, rounds=rounds)
                self.assertTrue(all(one[0] != two[0] for one, two in zip(runs, runs[1:])))
                self.assertTrue(all(count >= 1 for _, count in runs))


if __name__ == "__main__":
    unittest.main()
