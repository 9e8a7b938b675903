"""Values that several tests use: rows of all lengths, and values of the wrong kind or size."""

import itertools
import random

import reference

GREATEST = 10 ** 30
ROW = (9, 7, 8, 5, 6, 4)
SPANS = (1, 1, 2, 1, 2, 1)
LENGTHS = [1, 2, 3, 7, 50, 99, 100]


def plain_function():
    return None


def nested(levels):
    value = 1
    for _ in range(levels):
        value = (value,)
    return value


# Values that are integers in no place of the interface.
NO_INTEGERS = [
    True, False, None, "", "0", "1", b"1", (), (1,), [], [1], {}, {1: 1}, (True,), nested(20), plain_function,
]

NO_ROWS = [
    (), (1,) * 101, (1,) * 200,
    (GREATEST + 1,), (-GREATEST - 1,), (1, 2, 10 ** 199), (-10 ** 199, 1), (1, GREATEST + 1, 1),
    (True,), (False,), (1, True), (True, 1, 2), (1, 1, False), (0, False, 2),
    (None,), (1, None), ("1",), (1, "2"), (1, b"2"), (1, ""), ((1,),), (1, (2,)), (1, ()), ([1],), (1, [2], 3),
    ({},), (1, {1: 2}), (plain_function,), nested(3), nested(20),
    [], [1], [9, 7, 8, 5, 6, 4], [1] * 100, "", "1", "123", "9 7 8", "()", b"", b"123",
    None, True, False, 0, 1, 6, -1, GREATEST, {}, {1: 2}, {0: 9, 1: 7}, range(3), plain_function,
]

# Rows of integers, but not span rows.
NO_SPANS_BUT_ROWS = [
    (0,), (2,), (-1,), (1, 0), (1, 3), (2, 1), (1, 2, 2), (1, 1, 4), (1, 2, 1, 3), (1, 1, 0), (1, 1, -1),
    (1, 1, 2, 1, 2, 7), (1, 1, 2, 2), (9, 7, 8, 5, 6, 4), (GREATEST,), (-GREATEST,), (1, GREATEST),
    (1,) * 99 + (0,), (1,) * 99 + (101,), (1,) * 50 + (52,) + (1,) * 49, (2,) + (1,) * 99, tuple(range(100)),
]

NO_SPANS = NO_ROWS + NO_SPANS_BUT_ROWS


def no_places(size):
    return [-1, -2, -size, -size - 1, size, size + 1, 100, GREATEST, -GREATEST, 10 ** 199] + NO_INTEGERS


NO_SIZES = [0, -1, -100, 101, 102, 1000, GREATEST, -GREATEST, 10 ** 199] + NO_INTEGERS

NO_ROUNDS = [-1, -2, -GREATEST, GREATEST + 1, 10 ** 31, 10 ** 199] + NO_INTEGERS

NO_BRACKETS = [
    "", "(", ")", ")(", "(()", "())", "())(", "((", "))", "(()))(", "()(", ")()", "()" * 101, "(" * 101 + ")" * 101,
    "(" * 100 + ")" * 99, "(" * 99 + ")" * 100, "(" * 100, "()" * 100 + ")", "()" * 100 + "(", "()" * 2000,
    " ", "() ", " ()", "( )", "() ()", "()\n", "\n", "[]", "<>", "(a)", "()x", "1", "(1)", "().", "(()())(())()!",
    None, True, False, 0, 1, -1, b"()", b"", (), (1,), ("()",), ("(", ")"), ["()"], ["(", ")"], [], {},
    {"()": 1}, (1, 1, 2), GREATEST, nested(20), plain_function,
]


def small_rows(size):
    """All rows of so many entries as far as their order and their first round matter, and one value more."""
    return itertools.product(range(size + 1), repeat=size)


def long_rows():
    """Rows of several shapes and lengths, up to 100 entries, the same ones each time."""
    chance = random.Random(20261119)
    rows = []
    for length in LENGTHS:
        rows += [(5,) * length, tuple(range(length)), tuple(range(length, 0, -1)), (1,) * length]
        rows += [(-GREATEST,) * length, (GREATEST,) * length, tuple(place % 2 for place in range(length))]
        rows += [(GREATEST, -GREATEST) * (length // 2) + (GREATEST,) * (length % 2)]
        for most in [1, 3, 20, GREATEST]:
            rows += [tuple(chance.randint(-most, most) for _ in range(length)) for _ in range(5)]
    return rows


def long_span_rows():
    return [reference.after_round(row) for row in long_rows()]
