"""Section 6 and points [7] to [9]: span rows as forests."""

import itertools
import unittest

import reference
import samples
from samples import GREATEST
from spanrounds.errors import InvalidBrackets
from spanrounds.forests import (
    children_of,
    from_brackets,
    is_spans,
    parent_of,
    roots_of,
    stretch_of,
    to_brackets,
)
from spanrounds.rows import row_after


class IsSpans(unittest.TestCase):
    def test_all_small_tuples_against_point_7(self):
        for size in range(1, 5):
            resulting = reference.span_rows(size)
            for row in itertools.product(range(6), repeat=size):
                self.assertIs(is_spans(row), reference.is_span_row(row), row)
                self.assertIs(is_spans(row), row in resulting, row)
        self.assertIs(is_spans(()), False)

    def test_numbers_of_span_rows(self):
        for size, count in [(1, 1), (2, 2), (3, 5), (4, 14)]:
            rows = itertools.product(range(6), repeat=size)
            self.assertEqual(sum(is_spans(row) for row in rows), count)

    def test_what_results_from_a_row(self):
        for row in samples.long_rows():
            for rounds in [1, 2, 3, GREATEST]:
                self.assertIs(is_spans(row_after(row, rounds=rounds)), True, row)

    def test_long_ones_with_one_entry_changed(self):
        for spans in samples.long_span_rows():
            for place in {0, 1, len(spans) // 2, len(spans) - 2, len(spans) - 1} & set(range(len(spans))):
                for entry in [-GREATEST, -1, 0, 1, spans[place] - 1, spans[place] + 1, place, place + 1, place + 2,
                              100, 101, GREATEST]:
                    row = spans[:place] + (entry,) + spans[place + 1:]
                    self.assertIs(is_spans(row), reference.is_span_row(row), row)

    def test_long_ones_with_a_bool(self):
        for spans in samples.long_span_rows():
            self.assertEqual(spans[0], 1)
            self.assertIs(is_spans((True,) + spans[1:]), False)
            self.assertIs(is_spans(spans[:-1] + (True,)), False)

    def test_lengths(self):
        for length in [1, 2, 99, 100]:
            self.assertIs(is_spans((1,) * length), True)
            self.assertIs(is_spans(tuple(range(1, length + 1))), True)
        for length in [0, 101, 200]:
            self.assertIs(is_spans((1,) * length), False)
            self.assertIs(is_spans(tuple(range(1, length + 1))), False)

    def test_an_entry_covers_whole_trees(self):
        self.assertEqual([entry for entry in range(9) if is_spans((1, 1, 2, 1, 2, entry))], [1, 3, 5, 6])

    def test_other_values(self):
        for value in samples.NO_SPANS:
            self.assertIs(is_spans(value), False, value)


class Trees(unittest.TestCase):
    def check(self, spans):
        for place in range(len(spans)):
            self.assertEqual(parent_of(spans, place), reference.parent(spans, place), (spans, place))
            self.assertEqual(children_of(spans, place), reference.children(spans, place), (spans, place))
            self.assertEqual(stretch_of(spans, place), reference.stretch(spans, place), (spans, place))
        self.assertEqual(roots_of(spans), reference.roots(spans), spans)
        self.assertEqual(to_brackets(spans), reference.brackets(spans), spans)
        self.assertEqual(from_brackets(reference.brackets(spans)), spans)

    def test_all_span_rows_of_up_to_six_entries(self):
        for size in range(1, 7):
            for spans in reference.built_span_rows(size):
                self.check(spans)

    def test_the_span_rows_gone_through_are_all(self):
        for size in range(1, 6):
            self.assertEqual(sorted(reference.built_span_rows(size)), reference.span_rows(size))

    def test_children_and_parents_belong_together_in_long_ones(self):
        for spans in samples.long_span_rows():
            places = range(len(spans))
            parents = [parent_of(spans, place) for place in places]
            for place in places:
                behind = [other for other in places if other > place and other - spans[other] < place]
                self.assertEqual(parents[place], min(behind, default=None))
                self.assertEqual(children_of(spans, place), [one for one in places if parents[one] == place])
                last = len(spans) - 1 if parents[place] is None else parents[place] - 1
                self.assertEqual(stretch_of(spans, place), (place - spans[place] + 1, last))
            self.assertEqual(roots_of(spans), [place for place in places if parents[place] is None])

    def test_none_is_not_place_0(self):
        self.assertIs(parent_of((1, 1), 0), None)
        self.assertIs(parent_of((1,), 0), None)
        self.assertEqual(parent_of((1, 2), 0), 1)

    def test_100_entries(self):
        chain, flat, star = tuple(range(1, 101)), (1,) * 100, (1,) * 99 + (100,)
        self.assertEqual([parent_of(chain, place) for place in range(100)], list(range(1, 100)) + [None])
        self.assertEqual([parent_of(flat, place) for place in range(100)], [None] * 100)
        self.assertEqual([parent_of(star, place) for place in range(100)], [99] * 99 + [None])
        self.assertEqual([children_of(chain, 99), children_of(flat, 99)], [[98], []])
        self.assertEqual(children_of(star, 99), list(range(99)))
        self.assertEqual([roots_of(chain), roots_of(flat), roots_of(star)], [[99], list(range(100)), [99]])
        self.assertEqual([stretch_of(chain, 99), stretch_of(chain, 0)], [(0, 99), (0, 0)])
        self.assertEqual([stretch_of(flat, 99), stretch_of(flat, 0)], [(99, 99), (0, 99)])
        self.assertEqual([stretch_of(star, 99), stretch_of(star, 0)], [(0, 99), (0, 98)])

    def test_kinds_of_the_results(self):
        self.assertIs(type(children_of(samples.SPANS, 2)), list)
        self.assertIs(type(roots_of(samples.SPANS)), list)
        self.assertIs(type(stretch_of(samples.SPANS, 2)), tuple)
        self.assertIs(type(from_brackets("()")), tuple)


class Brackets(unittest.TestCase):
    def test_100_pairs(self):
        self.assertEqual(to_brackets((1,) * 100), "()" * 100)
        self.assertEqual(from_brackets("()" * 100), (1,) * 100)
        self.assertEqual(to_brackets(tuple(range(1, 101))), "(" * 100 + ")" * 100)
        self.assertEqual(from_brackets("(" * 100 + ")" * 100), tuple(range(1, 101)))
        self.assertEqual(to_brackets((1,) * 99 + (100,)), "(" + "()" * 99 + ")")
        self.assertEqual(from_brackets("(" + "()" * 99 + ")"), (1,) * 99 + (100,))

    def test_long_ones_both_ways(self):
        for spans in samples.long_span_rows():
            text = to_brackets(spans)
            self.assertEqual(text, reference_brackets(spans))
            self.assertEqual(from_brackets(text), spans)
            self.assertEqual(to_brackets(from_brackets(text)), text)

    def test_all_short_texts(self):
        for length in range(1, 11):
            for signs in itertools.product("()", repeat=length):
                text = "".join(signs)
                if is_matching(text):
                    spans = from_brackets(text)
                    self.assertIs(is_spans(spans), True)
                    self.assertEqual(to_brackets(spans), text)
                else:
                    self.assertRaises(InvalidBrackets, from_brackets, text)


def is_matching(text):
    while "()" in text:
        text = text.replace("()", "")
    return text == ""


def reference_brackets(spans):
    """[8], from the back: cut off the last tree each time."""
    text = ""
    while spans:
        inner = spans[len(spans) - spans[-1]:-1]
        text = "(" + reference_brackets(inner) + ")" + text
        spans = spans[:len(spans) - spans[-1]]
    return text


if __name__ == "__main__":
    unittest.main()
