"""Values that several tests use: rows of all lengths, and values of the wrong kind or size."""

import itertools
import random

import reference

GREATEST = 10 ** 30
ROW = (9, 7, 8, 5, 6, 4)
SPANS = (1, 1, 2, 1, 2, 1)
LENGTHS = [1, 2, 3, 7, 50, 99, 100]


def plain_function():
    return None


def nested(levels):
    value = 1
    for _ in range(levels):
        value = (value,)
    return value


# Values that are integers in no place of the interface.
NO_INTEGERS = [
    True, False, None, "", "0", "1", b"1", (), (1,), [], [1], {}, {1: 1}, (True,), nested(20), plain_function,
]

NO_ROWS = [
    (), (1,) * 101, (1,) * 200,
    (GREATEST + 1,), (-GREATEST - 1,), (1, 2, 10 ** 199), (-10 ** 199, 1), (1, GREATEST + 1, 1),
    (True,), (False,), (1, True), (True, 1, 2), (1, 1, False), (0, False, 2),
    (None,), (1, None), ("1",), (1, "2"), (1, b"2"), (1, ""), ((1,),), (1, (2,)), (1, ()), ([1],), (1, [2], 3),
    ({},), (1, {1: 2}), (plain_function,), nested(3), nested(20),
    [], [1], [9, 7, 8, 5, 6, 4], [1] * 100, "", "1", "123", "9 7 8", "()", b"", b"123",
    None, True, False, 0, 1, 6, -1, GREATEST, {}, {1: 2}, {0: 9, 1: 7}, range(3), plain_function,
]

# Rows of integers, but not span rows.
NO_SPANS_BUT_ROWS = [
    (0,), (2,), (-1,), (1, 0), (1, 3), (2, 1), (1, 2, 2), (1, 1, 4), (1, 2, 1, 3), (1, 1, 0), (1, 1, -1),
    (1, 1, 2, 1, 2, 7), (1, 1, 2, 2), (9, 7, 8, 5, 6, 4), (GREATEST,), (-GREATEST,), (1, GREATEST),
    (1,) * 99 + (0,), (1,) * 99 + (101,), (1,) * 50 + (52,) + (1,) * 49, (2,) + (1,) * 99, tuple(range(100)),
]

NO_SPANS = NO_ROWS + NO_SPANS_BUT_ROWS


def no_places(size):
    return [-1, -2, -size, -size - 1, size, size + 1, 100, GREATEST, -GREATEST, 10 ** 199] + NO_INTEGERS


NO_SIZES = [0, -1, -100, 101, 102, 1000, GREATEST, -GREATEST, 10 ** 199] + NO_INTEGERS

NO_ROUNDS = [-1, -2, -GREATEST, GREATEST + 1, 10 ** 31, 10 ** 199] + NO_INTEGERS

NO_BRACKETS = [
    "", "(", ")", ")(", "(()", "())", "())(", "((", "))", "(()))(", "()(", ")()", "()" * 101, "(" * 101 + ")" * 101,
    "(" * 100 + ")" * 99, "(" * 99 + ")" * 100, "(" * 100, "()" * 100 + ")", "()" * 100 + "(", "()" * 2000,
    " ", "() ", " ()", "( )", "() ()", "()\n", "\n", "[]", "<>", "(a)", "()x", "1", "(1)", "().", "(()())(())()!",
    None, True, False, 0, 1, -1, b"()", b"", (), (1,), ("()",), ("(", ")"), ["()"], ["(", ")"], [], {},
    {"()": 1}, (1, 1, 2), GREATEST, nested(20), plain_function,
]

# Rows that a round changes.
NO_STILL = [
    (0,), (2,), (-1,), (2, 1), (1, 3), (2, 2), (1, 1, 2), (4, 2, 3), (1, 2, 2), (1, 2, 1, 3), (1, 1, 2, 1, 2, 1),
    (1, 1, 2, 1), (1, 2, 1, 2, 4), (9, 7, 8, 5, 6, 4), (GREATEST,), (-GREATEST,), (1,) * 99 + (2,), (1,) * 99 + (0,),
    (2,) + (1,) * 99, (1, 2) + (1,) * 97 + (2,), tuple(range(100)), tuple(range(100, 0, -1)), (GREATEST,) * 100,
]

# Rows that are not orders: an integer twice, missing, too great or too small.
NO_ORDERS_BUT_ROWS = [
    (1,), (-1,), (2,), (0, 0), (1, 1), (1, 2), (0, 2), (2, 0), (-1, 0), (0, 1, 1), (0, 0, 2), (1, 2, 3), (0, 1, 3),
    (5, 3, 4, 1, 2, 2), (5, 3, 4, 1, 2, 6), (5, 3, 4, 1, 2, -1), (6, 4, 5, 2, 3, 1), (5, 5, 4, 1, 2, 0),
    (0, GREATEST), (-GREATEST, 0), (1,) * 100, tuple(range(1, 101)), tuple(range(-1, 99)), tuple(range(99)) + (98,),
    tuple(range(99)) + (100,), (1,) + tuple(range(1, 100)), tuple(range(0, 200, 2)),
]

NO_ORDERS = NO_ROWS + NO_ORDERS_BUT_ROWS + [
    (False,), (True, False), (False, 1), (0, True), (1, False, 2), (5, 3, 4, True, 2, 0), (5, 3, 4, 1, 2, False),
    (0, None), ("0",), (0, "1"), ("0", "1"), ((0,),), (0, (1,)), ((0, 1),), ([0],), (0, [1]), (b"0",), ({},),
    (0, {1: 1}), [0], [1, 0], [5, 3, 4, 1, 2, 0], list(range(100)), tuple(range(101)), tuple(range(200)),
    "0", "10", "534120", b"\0", 0, {0: 0}, {0: 1, 1: 0}, range(1), range(6),
]

NO_BELOWS = [0, -1, -2, -GREATEST, GREATEST + 1, 10 ** 31, 10 ** 199, -10 ** 199] + NO_INTEGERS

NO_SIGNS = [
    "", "<=", ">=", "==", "=<", "=>", "<>", "!=", "<<", "<=>", " <", "< ", "<\n", "=\n", " ", "open", "a", "lt", "-",
    b"<", b"=", b">", None, True, False, 0, 1, -1, 60, GREATEST, (), ("<",), ("<", "=", ">"), [], ["<"], {}, {"<": 1},
    nested(20), plain_function,
]

GREATEST_WEIGHT = 10 ** 28
# No weights for a row of six entries.
NO_WEIGHTS = [
    (), (1,), (1,) * 5, (1,) * 7, (1,) * 100, (1,) * 200,
    (0,) + (1,) * 5, (1,) * 5 + (0,), (1, 1, 0, 1, 1, 1), (0,) * 6, (-1,) + (1,) * 5, (1,) * 5 + (-GREATEST_WEIGHT,),
    (GREATEST_WEIGHT + 1,) + (1,) * 5, (1,) * 5 + (GREATEST_WEIGHT + 1,), (1, 1, 1, 10 ** 199, 1, 1), (GREATEST,) * 6,
    (True,) + (1,) * 5, (1,) * 5 + (True,), (1,) * 5 + (False,), (True,) * 6, (False,) * 6,
    (None,) * 6, (1,) * 5 + (None,), ("1",) * 6, (1,) * 5 + ("1",), (1,) * 5 + (b"1",), (1,) * 5 + ((1,),),
    (1,) * 5 + ([1],), (1,) * 5 + ({},), (1,) * 5 + (plain_function,), (1,) * 5 + (nested(19),), ((1,) * 6,),
    [], [1], [1] * 6, [[1] * 6], "", "111111", "1 1 1 1 1 1", b"111111", None, True, False, 0, 1, 6, -1, GREATEST,
    {}, {place: 1 for place in range(6)}, range(1, 7), nested(20), plain_function,
]


def no_numbers(count):
    """Values that are no numbers of so many things."""
    return [-1, -2, -count, count, count + 1, 2 * count, 10 ** 199, -10 ** 199] + NO_INTEGERS


def numbers_among(count):
    """Numbers of so many things: the first ones, the last ones, some between, and the ones next to them."""
    chance = random.Random(count)
    some = [0, 1, count // 3, count // 2, count - 1] + [chance.randrange(count) for _ in range(12)]
    return sorted({number + step for number in some for step in [-1, 0, 1] if 0 <= number + step < count})


def small_rows(size):
    """All rows of so many entries as far as their order and their first round matter, and one value more."""
    return itertools.product(range(size + 1), repeat=size)


def long_rows():
    """Rows of several shapes and lengths, up to 100 entries, the same ones each time."""
    chance = random.Random(20261119)
    rows = []
    for length in LENGTHS:
        rows += [(5,) * length, tuple(range(length)), tuple(range(length, 0, -1)), (1,) * length]
        rows += [(-GREATEST,) * length, (GREATEST,) * length, tuple(place % 2 for place in range(length))]
        rows += [(GREATEST, -GREATEST) * (length // 2) + (GREATEST,) * (length % 2)]
        for most in [1, 3, 20, GREATEST]:
            rows += [tuple(chance.randint(-most, most) for _ in range(length)) for _ in range(5)]
    return rows


def long_span_rows():
    return [reference.after_round(row) for row in long_rows()]


def shapes():
    """Span rows of 100 entries of several kinds, by name."""
    chance = random.Random(100)
    rows = {
        "falling": tuple(range(100, 0, -1)),
        "rising": tuple(range(100)),
        "one root over all": (0,) * 99 + (1,),
        "ten times ten": tuple(range(10)) * 10,
        "pairs": (0, 1) * 50,
        "deep with leaves": tuple(place // 2 if place & 1 else 0 for place in range(100)),
        "deep with leaves behind": tuple(0 if place & 1 else place for place in range(100)),
        "half deep, half flat": tuple(range(50)) + (0,) * 50,
        "half flat, half deep": (9,) * 50 + tuple(range(50)),
        "halves in halves": tuple((place & -place).bit_length() for place in range(1, 101)),
        "two deep ones": tuple(range(49)) * 2 + (50, 0),
        "at random": tuple(chance.sample(range(100), 100)),
        "at random, often equal": tuple(chance.randrange(8) for _ in range(100)),
        "mostly rising": tuple(place + chance.randrange(20) for place in range(100)),
        "mostly falling": tuple(chance.randrange(20) - place for place in range(100)),
    }
    return {name: reference.after_round(row) for name, row in rows.items()}


def changed_span_rows():
    """Rows that differ from a span row in one entry, and are no span rows."""
    chance = random.Random(7)
    found = []
    for spans in long_span_rows():
        for place in {0, len(spans) - 1, chance.randrange(len(spans))}:
            entry = chance.choice([0, -1, spans[place] + 1, spans[place] - 1, place + 2, 101, GREATEST])
            row = spans[:place] + (entry,) + spans[place + 1:]
            if not reference.is_span_row(row):
                found.append(row)
    return found


NO_ENTRIES = [GREATEST + 1, -GREATEST - 1, 10 ** 31, -10 ** 31, 10 ** 199, -10 ** 199] + NO_INTEGERS

# Values of none of the forms of operations on a live row, although some items behind the first ones are valid.
NO_OPERATIONS = [
    (), ("play",), ("play", 1, 1), ("play", 1, 2, 3), ("put",), ("put", 0), ("put", 0, 1, 2), ("take",), ("take", 0, 1),
    ("change",), ("change", 0), ("change", 0, 1, 2), ("undo",), ("undo", 1), ("log",), ("preview",), ("row", 1),
    ("Play", 1), ("PUT", 0, 1), ("play ", 1), (" take", 0), ("tak", 0), ("takes", 0), ("", 0), ("", 0, 1), ("p", 0),
    (b"play", 1), (None, 1), (True, 1), (0, 1), (1, 0, 1), (["play"], 1), (("play",), 1), ([], 1), ({}, 1), ((), 0),
    (("play", 1),), (("put", 0, 1), ("play", 1)), ({"play": 1}, 1), (plain_function, 1), (nested(19), 1), (1, "play"),
    ["play", 1], ["put", 0, 1], ["take", 0], ["change", 0, 1], [], [("play", 1)], "play", "play 1", "put", "take 0", "",
    b"play", {"play": 1}, {0: "play", 1: 1}, {}, None, True, False, 0, 1, -1, GREATEST, nested(20), plain_function,
]

# No texts of rows.
NO_TEXTS = [
    "", " ", "  ", "9  7", " 9", "9 ", " 9 7", "9 7 ", "9 7  8", "  9", "9\t7", "9,7", "9, 7", "(9, 7)", "[9]", "9;7",
    "+9", "+0", "9 +7", "-0", "9 -0", "-0 9", "00", "01", "007", "9 07", "-01", "-00", "9 -07", "--9", "-", "9 -",
    "- 9",
    "9-", "9 7-", "-+9", "+-9", "9-7", "9\n", "\n", "\n9", "9\n7", "9 \n7", "9\r", "9 7\r", "9\x0b", "9\x00", "\x009",
    "a", "9 a", "9a", "a9", "0x9", "1e3", "1_000", "1.0", "9.", ".9", "1/1", "None", "True", "nan", "(", "'9'", "ok",
    "\u0661", "9 \u0662", "\u00b2", "9\u00a07", "9\u20037", "\uff19", "9 \u2212" + "7", "\u00bd", "\u4e00",
    str(GREATEST + 1), str(-GREATEST - 1), "9 " + str(GREATEST + 1), str(-GREATEST - 1) + " 9", "9" * 31,
    "-" + "9" * 31, "1" + "0" * 31, "9" * 32, "9" * 200, "9" * 4000, "-" + "9" * 4299, "9" * 5000, "-" + "9" * 6000,
    "0" * 31, "0" * 4000, " ".join("1" * 101), " ".join("1" * 200), " ".join("1" * 2000), " ".join("1" * 100) + " ",
    " " + " ".join("1" * 100),
    " ".join("1" * 99) + "  1", " ".join("1" * 99) + " a",
    None, True, False, 0, 9, -1, GREATEST, b"9", b"9 7", b"", (), (9,), ("9",), ("9", "7"), (9, 7), [], ["9"], [9, 7],
    ["9", "7"], {}, {"9": 7}, {9: 7}, nested(20), plain_function,
]
