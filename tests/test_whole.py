"""Points [1] and [2] over the whole program, and that all modules tell the same of a row."""

import itertools
import random
import unittest

import reference
import reference_long
import samples
import samples_long
from samples import GREATEST
from spanrounds.console import Console
from spanrounds.counting import count_still, nth_still, spans_number, still_number
from spanrounds.forests import children_of, from_brackets, is_spans, parent_of, roots_of, stretch_of, to_brackets
from spanrounds.live import LiveRow
from spanrounds.long import is_blocks, long_after, long_count, long_entry, long_needed
from spanrounds.orders import count_orders, nth_order
from spanrounds.reading import example, is_certain, relation
from spanrounds.rows import is_row, row_after, rows_of
from spanrounds.settling import final_row, is_still, meeting, most_rounds, rounds_needed, slowest_row
from spanrounds.texts import read_row, show_row
from spanrounds.weights import weighted_after, weighted_needed

ROUNDS = [0, 1, 2, 3, 9, GREATEST]


def all_rows():
    """Small rows, long ones and slow ones."""
    rows = list(samples.small_rows(2)) + list(samples.small_rows(3)) + samples.long_rows()
    return rows + reference.built_span_rows(5) + [slowest_row(size) for size in [1, 2, 3, 5, 8, 13, 34, 89, 100]]


def console_with(row):
    console = Console()
    console.say("row " + show_row(row))
    return console


def ones(row):
    """Blocks of count 1."""
    return tuple((entry, 1) for entry in row)


class TheSameRow(unittest.TestCase):
    def test_rounds_are_the_same_everywhere(self):
        for row in all_rows():
            console = console_with(row)
            for rounds in ROUNDS:
                expected = row_after(row, rounds=rounds)
                self.assertEqual(reference_long.spread(long_after(ones(row), rounds=rounds)), expected)
                self.assertEqual(weighted_after(row, (1,) * len(row), rounds=rounds), expected)
                self.assertEqual(read_row(console.say("after " + str(rounds))), expected)
                if rounds:
                    live = LiveRow(row)
                    self.assertEqual([live.play(rounds=rounds), live.row], [expected, expected])
                    self.assertEqual(LiveRow(row).preview(("play", rounds)), expected)
                    self.assertEqual(console_with(row).say("play " + str(rounds)), show_row(expected))

    def test_the_number_of_rounds_is_the_same_everywhere(self):
        for row in all_rows():
            needed = rounds_needed(row)
            self.assertEqual(long_needed(ones(row)), needed)
            self.assertEqual(weighted_needed(row, (1,) * len(row)), needed)
            self.assertEqual(console_with(row).say("needed"), str(needed))
            self.assertEqual(len(list(rows_of(row))), needed + 1)
            self.assertIs(LiveRow(row).stands, needed == 0)
            self.assertIs(is_still(row), needed == 0)
            live = LiveRow(row)
            for _ in range(needed):
                self.assertIs(live.stands, False)
                live.play()
            self.assertIs(live.stands, True)

    def test_entries_of_long_rows_of_single_ones(self):
        for row in all_rows():
            for rounds in [0, 1, 2, GREATEST]:
                played = row_after(row, rounds=rounds)
                for place in {0, len(row) // 2, len(row) - 1}:
                    self.assertEqual(long_entry(ones(row), place, rounds=rounds), played[place])
                for entry in {1, played[0], played[-1], len(row)}:
                    self.assertEqual(long_count(ones(row), entry, rounds=rounds), played.count(entry))

    def test_blocks_of_rows_that_can_be_written_out(self):
        for blocks in itertools.chain(samples_long.small_blocks(), samples_long.middle_blocks()):
            row = reference_long.spread(blocks)
            if len(row) <= 100:
                for rounds in [0, 1, 2, GREATEST]:
                    expected = reference_long.runs_of_row(row_after(row, rounds=rounds))
                    self.assertEqual(long_after(blocks, rounds=rounds), expected)
                self.assertEqual(long_needed(blocks), rounds_needed(row))

    def test_spans_brackets_numbers_orders_and_relations(self):
        for row in all_rows():
            live, console, spans = LiveRow(row), console_with(row), row_after(row)
            self.assertEqual([live.spans, read_row(console.say("spans"))], [spans, spans])
            self.assertEqual(from_brackets(console.say("brackets")), spans)
            self.assertEqual(console.say("brackets"), to_brackets(live.spans))
            self.assertEqual(console.say("number"), str(spans_number(live.spans)))
            self.assertEqual(console.say("orders"), str(count_orders(live.spans)))
            for place, other in itertools.permutations({0, len(row) // 2, len(row) - 1}, 2):
                self.assertEqual(console.say(f"relation {place} {other}"), relation(live.spans, place, other))

    def test_orders_and_examples_as_live_rows(self):
        for row in samples.long_rows():
            spans = row_after(row)
            live = LiveRow(nth_order(spans, count_orders(spans) // 2))
            self.assertEqual([live.spans, console_with(live.row).say("spans")], [spans, show_row(spans)])
            if len(row) > 1:
                found = [example(spans, 0, len(row) - 1, sign=sign) for sign in "<=>"]
                self.assertTrue(all(LiveRow(one).spans == spans for one in found if one))

    def test_meeting_of_live_rows_that_are_played(self):
        for row in all_rows():
            live = LiveRow(row)
            live.play(rounds=GREATEST)
            self.assertEqual(meeting(row, live.row), rounds_needed(row))
            self.assertEqual(console_with(row).say("meet " + show_row(live.row)), str(rounds_needed(row)))

    def test_previews_and_consoles(self):
        chance = random.Random(14)
        for row in samples.long_rows():
            live, console = LiveRow(row), console_with(row)
            place, entry = chance.randrange(len(row)), chance.randint(-9, 9)
            found = live.preview(("change", place, entry), ("play", 1))
            console.say(f"change {place} {entry}")
            self.assertEqual(console.say("play 1"), show_row(found))
            self.assertEqual([live.row, live.log()], [row, []])


class NoEntryGetsLess(unittest.TestCase):
    """[2] (a): from the first round on."""

    def check(self, rows):
        for before, after in zip(rows, rows[1:]):
            self.assertTrue(all(old <= new for old, new in zip(before, after)), (before, after))

    def test_live_rows(self):
        for row in all_rows():
            live = LiveRow(row)
            self.check([live.play() for _ in range(11)])

    def test_consoles(self):
        for row in samples.long_rows():
            console = console_with(row)
            self.check([read_row(console.say("after " + str(rounds))) for rounds in range(1, 8)])
            self.check([read_row(console.say("play 1")) for _ in range(6)])

    def test_weighted_rows(self):
        for row in all_rows():
            chance = random.Random(len(row))
            for most in [1, 3, 10 ** 28]:
                weights = tuple(chance.randint(1, most) for _ in row)
                self.check([weighted_after(row, weights, rounds=rounds) for rounds in range(1, 9)])

    def test_long_rows(self):
        for blocks in samples_long.middle_blocks():
            self.check([reference_long.spread(long_after(blocks, rounds=rounds)) for rounds in range(1, 12)])


class RoundsUntilStill(unittest.TestCase):
    """[2] (b)."""

    def test_live_rows_and_consoles(self):
        for row in all_rows():
            live = LiveRow(row)
            live.play(rounds=most_rounds(len(row)))
            self.assertIs(live.stands, True)
            self.assertLessEqual(int(console_with(row).say("needed")), most_rounds(len(row)))

    def test_the_slowest_ones(self):
        for size in range(1, 101):
            row, rounds = slowest_row(size), most_rounds(size)
            live = LiveRow(row)
            if rounds > 1:
                live.play(rounds=rounds - 1)
            self.assertIs(live.stands, rounds == 1 and is_still(row))
            live.play()
            self.assertIs(live.stands, True)
            self.assertEqual(console_with(row).say("needed"), str(rounds))
            self.assertEqual([long_needed(ones(row)), reference_long.most_rounds(size)], [rounds, rounds])

    def test_long_rows_with_few_entries(self):
        for blocks in itertools.chain(samples_long.small_blocks(), samples_long.middle_blocks()):
            size = reference_long.size_of(blocks)
            if size <= 100:
                self.assertLessEqual(long_needed(blocks), most_rounds(size))

    def test_weighted_rows_need_at_most_as_many_rounds_as_entries(self):
        for blocks in samples_long.huge_blocks():
            # The counts of blocks are weights, too.
            row, weights = tuple(entry for entry, _ in blocks[:100]), tuple(count for _, count in blocks[:100])
            self.assertLessEqual(weighted_needed(row, weights), len(row))


class Still(unittest.TestCase):
    """[2] (c)."""

    def test_live_rows_that_stand_are_those_of_point_8(self):
        for row in all_rows():
            expected = reference.is_span_row(row) and reference.has_still_siblings(row)
            self.assertIs(LiveRow(row).stands, expected)
            self.assertIs(console_with(row).say("needed") == "0", expected)
            self.assertIs(long_needed(ones(row)) == 0, expected)

    def test_live_rows_of_still_ones(self):
        for size in list(range(1, 8)) + [99, 100]:
            for number in samples.numbers_among(count_still(size)):
                live = LiveRow.still(size, number=number)
                self.assertIs(live.stands, True)
                self.assertEqual([live.spans, live.play(), live.row], [live.row] * 3)
                self.assertEqual([still_number(live.row), len(live)], [number, size])
                self.assertTrue(live == LiveRow(nth_still(size, number)))
                self.assertEqual(console_with(live.row).say("needed"), "0")

    def test_all_still_ones_and_no_others(self):
        for size in range(1, 8):
            stand = [row for row in reference.built_span_rows(size) if LiveRow(row).stands]
            made = [LiveRow.still(size, number=number).row for number in range(count_still(size))]
            self.assertEqual(sorted(made), sorted(stand))

    def test_long_rows_played_to_the_end(self):
        for blocks in itertools.chain(samples_long.small_blocks(), samples_long.middle_blocks()):
            runs = long_after(blocks, rounds=GREATEST)
            row = reference_long.spread(runs)
            if len(row) <= 60:
                self.assertTrue(reference.is_span_row(row) and reference.has_still_siblings(row))
            self.assertEqual([long_after(runs), long_needed(runs)], [runs, 0])

    def test_a_live_row_played_to_the_end(self):
        for row in all_rows():
            live, final = LiveRow(row), final_row(row)
            live.play(rounds=GREATEST)
            self.assertEqual([live.row, live.spans, live.stands], [final, final, True])
            self.assertEqual(still_number(live.row), still_number(final))
            self.assertEqual(spans_number(live.row), spans_number(final))
            self.assertEqual(to_brackets(live.spans), to_brackets(final))
            self.assertEqual(roots_of(live.row), roots_of(final))
            for place in {0, len(row) // 2, len(row) - 1}:
                self.assertEqual(children_of(live.row, place), children_of(final, place))
                self.assertEqual(parent_of(live.row, place), parent_of(final, place))
            console = console_with(row)
            self.assertEqual(console.say("final"), show_row(final))
            self.assertEqual(console.say("play 1" + "0" * 30), show_row(final))
            self.assertEqual(console.say("brackets"), to_brackets(final))
            self.assertEqual(console.say("number"), str(spans_number(final)))
            self.assertEqual([console.say("spans"), console.say("needed")], [show_row(final), "0"])


class CertainOrder(unittest.TestCase):
    """[2] (d): in all rows with the same spans two entries stand in a certain order, or not."""

    def test_live_rows_with_the_same_spans(self):
        groups = {}
        for row in itertools.product(range(4), repeat=4):
            groups.setdefault(LiveRow(row).spans, []).append(row)
        self.assertEqual(len(groups), 14)
        for spans, rows in groups.items():
            stretches = [stretch_of(spans, place) for place in range(4)]
            for place, other in itertools.permutations(range(4), 2):
                signs = {reference.sign(row, place, other) for row in rows}
                certain = any(
                    first <= one <= last
                    for one, (first, last) in [(place, stretches[other]), (other, stretches[place])]
                )
                self.assertIs(not {"<", ">"} <= signs, certain)
                self.assertIs(is_certain(spans, place, other), certain)
                told = {console_with(row).say(f"relation {place} {other}") for row in rows}
                self.assertEqual(told, {relation(spans, place, other)})
                self.assertEqual(signs, set("<=>") if told == {"open"} else set("".join(told)))

    def test_consoles_with_long_rows(self):
        for row in samples.long_rows():
            console, spans = console_with(row), row_after(row)
            for place, other in itertools.permutations({0, len(row) // 3, len(row) - 1}, 2):
                (first, last), (begin, end) = stretch_of(spans, place), stretch_of(spans, other)
                certain = first <= other <= last or begin <= place <= end
                self.assertIs(console.say(f"relation {place} {other}") != "open", certain)


class PassedBack(unittest.TestCase):
    def test_rows_that_are_returned(self):
        for row in samples.long_rows():
            live = LiveRow(row)
            for value in [live.row, live.spans, live.play(), live.preview(("play", 2)), read_row(show_row(row))]:
                self.assertIs(is_row(value), True)
                self.assertEqual(LiveRow(value).row, value)
                self.assertEqual(read_row(show_row(value)), value)
            self.assertIs(is_spans(live.row), True)

    def test_runs_that_are_returned(self):
        for blocks in samples_long.middle_blocks():
            for rounds in [0, 1, 2, 5]:
                runs = long_after(blocks, rounds=rounds)
                self.assertIs(is_blocks(runs), len(runs) <= 200)
                if is_blocks(runs):
                    self.assertEqual(long_after(runs, rounds=0), runs)
                    self.assertEqual(long_after(runs), long_after(blocks, rounds=rounds + 1))

    def test_logs_that_are_returned(self):
        for row in samples.long_rows():
            live = LiveRow(row)
            live.change(0, 3)
            live.play(rounds=2)
            self.assertEqual(LiveRow(row).preview(*live.log()), live.row)


class Again(unittest.TestCase):
    def test_equal_calls_give_equal_results(self):
        for row in samples.long_rows()[::4]:
            blocks, live, console = ones(row), LiveRow(row), console_with(row)

            def answers():
                return [
                    long_after(blocks), long_entry(blocks, 0), long_count(blocks, 1), long_needed(blocks),
                    live.row, live.spans, live.stands, live.log(), live.preview(("play", 2)), len(live),
                    show_row(row), read_row(show_row(row)), [console.say(word) for word in ["show", "final", "orders"]],
                ]

            before = answers()
            self.assertEqual(answers(), before)
            live.log().append("changed")
            live.log().clear()
            children_of(live.spans, 0).append("changed")
            roots_of(live.spans).clear()
            self.assertEqual(answers(), before)
            self.assertEqual(blocks, ones(row))


if __name__ == "__main__":
    unittest.main()
