"""Section 9 and points [2], [9] and [12]: what the spans tell about the entries."""

import itertools
import random
import unittest

import reference
import samples
from spanrounds.errors import InvalidPlace
from spanrounds.reading import example, is_certain, relation

SIGNS = ["<", "=", ">"]
# Which relation holds if these signs occur.
RELATIONS = {"<": "<", "<=": "<=", ">": ">", "=>": ">=", "<=>": "open"}


def pairs(size):
    return itertools.permutations(range(size), 2)


def small_groups():
    """All span rows of up to five entries, each with all rows of integers from 0 to n - 1 that have these spans."""
    for size in range(1, 6):
        yield from reference.by_spans(itertools.product(range(size), repeat=size)).items()


class Small(unittest.TestCase):
    def test_all_span_rows_are_gone_through(self):
        expected = [spans for size in range(1, 6) for spans in reference.built_span_rows(size)]
        self.assertEqual(sorted(spans for spans, _ in small_groups()), sorted(expected))

    def test_relation_and_is_certain(self):
        for spans, rows in small_groups():
            for place, other in pairs(len(spans)):
                signs = "".join(sorted({reference.sign(row, place, other) for row in rows}))
                self.assertEqual(relation(spans, place, other), RELATIONS[signs], (spans, place, other))
                self.assertIs(is_certain(spans, place, other), signs != "<=>", (spans, place, other))

    def test_is_certain_as_the_document_says(self):
        for spans, _ in small_groups():
            stretches = [reference.stretch(spans, place) for place in range(len(spans))]
            for place, other in pairs(len(spans)):
                stands = stretches[place][0] <= other <= stretches[place][1]
                stands_too = stretches[other][0] <= place <= stretches[other][1]
                self.assertIs(is_certain(spans, place, other), stands or stands_too)

    def test_example(self):
        for spans, rows in small_groups():
            for place, other in pairs(len(spans)):
                for sign in SIGNS:
                    row = example(spans, place, other, sign=sign)
                    if any(reference.sign(one, place, other) == sign for one in rows):
                        self.assertIn(row, rows, (spans, place, other, sign))
                        self.assertEqual(reference.sign(row, place, other), sign, (spans, place, other))
                    else:
                        self.assertIs(row, None, (spans, place, other, sign))

    def test_the_words_of_point_12_against_all_rows(self):
        for spans, rows in small_groups():
            for (place, other), word in reference.relations(spans).items():
                signs = "".join(sorted({reference.sign(row, place, other) for row in rows}))
                self.assertEqual(word, RELATIONS[signs], (spans, place, other))


class Long(unittest.TestCase):
    def some_pairs(self, spans, words):
        """Siblings, neighbours, places at the ends, and others, each both ways."""
        size = len(spans)
        chance = random.Random(sum(spans))
        siblings = [pair for pair in words if words[pair] in ("<=", ">=")]
        found = {(place, place + 1) for place in range(0, size - 1, 7)} | {(0, size - 1), (0, size // 2), (1, size - 2)}
        found |= {(size // 2, size - 1), (size - 2, size - 1), (0, 1)}
        found |= set(siblings[:3] + siblings[-3:] + chance.sample(siblings, min(10, len(siblings))))
        found |= set(chance.sample(sorted(words), 15))
        return [pair for one, two in sorted(found) for pair in [(one, two), (two, one)]]

    def check_row(self, row, spans, place, other, sign):
        self.assertIs(type(row), tuple)
        self.assertTrue(all(type(entry) is int and 0 <= entry < len(spans) for entry in row), row)
        self.assertEqual(reference.after_round(row), spans)
        self.assertEqual(reference.sign(row, place, other), sign, (spans, place, other))

    def test_100_places(self):
        for name, spans in samples.shapes().items():
            words = reference.relations(spans)
            for place, other in self.some_pairs(spans, words):
                word = words[place, other]
                self.assertEqual(relation(spans, place, other), word, (name, place, other))
                self.assertIs(is_certain(spans, place, other), word != "open", (name, place, other))
                for sign in SIGNS:
                    row = example(spans, place, other, sign=sign)
                    if word == "open" or sign in word:
                        self.check_row(row, spans, place, other, sign)
                    else:
                        self.assertIs(row, None, (name, place, other, sign))

    def test_all_pairs_of_some_places(self):
        for name in ["ten times ten", "at random", "halves in halves"]:
            spans = samples.shapes()[name]
            words = reference.relations(spans)
            for place in [0, 1, 9, 49, 50, 63, 98, 99]:
                for other in range(100):
                    if other != place:
                        self.assertEqual(relation(spans, place, other), words[place, other], (name, place, other))
                        self.assertEqual(relation(spans, other, place), words[other, place], (name, place, other))

    def test_flat(self):
        spans = (1,) * 100
        self.assertEqual([relation(spans, 0, 99), relation(spans, 99, 0)], [">=", "<="])
        self.assertEqual([relation(spans, 41, 42), relation(spans, 42, 41)], [">=", "<="])
        self.assertEqual(len(set(example(spans, 0, 99, sign="="))), 1)
        self.assertEqual([example(spans, 0, 99, sign="<"), example(spans, 99, 0, sign=">")], [None, None])
        row = example(spans, 41, 42, sign=">")
        self.assertTrue(row[41] > row[42])

    def test_deep(self):
        spans = tuple(range(1, 101))
        self.assertEqual([relation(spans, 0, 99), relation(spans, 99, 0)], ["<", ">"])
        self.assertEqual(example(spans, 0, 99, sign="<"), tuple(range(100)))
        self.assertEqual([example(spans, 0, 99, sign="="), example(spans, 0, 99, sign=">")], [None, None])

    def test_a_place_behind_within_the_stretch_that_is_no_sibling_is_less(self):
        spans = (1, 1, 2, 1, 2, 1)
        self.assertEqual([relation(spans, 0, 1), relation(spans, 1, 0)], [">", "<"])
        self.assertEqual([relation(spans, 0, 3), relation(spans, 2, 3)], [">", ">"])
        self.assertIs(example(spans, 0, 1, sign="="), None)

    def test_equal_siblings_far_from_each_other(self):
        spans = (1, 1, 2, 1, 2, 1)
        row = example(spans, 0, 5, sign="=")
        self.check_row(row, spans, 0, 5, "=")
        self.assertEqual([row[0], row[2], row[4]], [row[5]] * 3)

    def test_each_sign_both_ways(self):
        spans = (1, 1, 2, 1, 2, 1)
        for sign, turned in zip("<=>", ">=<"):
            self.check_row(example(spans, 1, 3, sign=sign), spans, 1, 3, sign)
            self.check_row(example(spans, 3, 1, sign=turned), spans, 1, 3, sign)

    def test_other_is_not_the_same_place(self):
        for spans in [(1,), (1, 2), samples.SPANS, (1,) * 100]:
            for place in {0, len(spans) - 1}:
                self.assertRaises(InvalidPlace, relation, spans, place, place)
                self.assertRaises(InvalidPlace, is_certain, spans, place, place)
                self.assertRaises(InvalidPlace, example, spans, place, place, sign="=")

    def test_kinds(self):
        self.assertIs(type(relation((1, 1), 0, 1)), str)
        self.assertIs(is_certain((1, 1), 0, 1), True)
        self.assertIs(is_certain((1, 2, 1, 4), 0, 2), False)


if __name__ == "__main__":
    unittest.main()
