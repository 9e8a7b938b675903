"""Blocks that several tests use: small ones, some that can be written out, and some that can't."""

import itertools
import random

import reference_long
from samples import GREATEST, GREATEST_WEIGHT, nested, plain_function

GREATEST_COUNT = 10 ** 28
BLOCKS = ((5, 3), (2, 4), (3, 1))

NO_BLOCKS = [
    (), ((1, 1),) * 201, ((1, 1), (2, 1)) * 100 + ((1, 1),), ((1, 1),) * 400,
    ((1, 0),), ((1, -1),), ((1, GREATEST_COUNT + 1),), ((1, GREATEST),), ((1, 10 ** 199),), ((1, -GREATEST_COUNT),),
    ((5, 3), (2, 0), (3, 1)), ((5, 3), (2, 4), (3, 0)), ((5, 3), (2, 4), (3, GREATEST_COUNT + 1)),
    ((GREATEST + 1, 1),), ((-GREATEST - 1, 1),), ((10 ** 199, 1),), ((5, 3), (2, 4), (GREATEST + 1, 1)),
    ((-GREATEST - 1, 3), (2, 4), (3, 1)), ((1, 1),) * 199 + ((1, 0),), ((1, 1),) * 199 + ((GREATEST + 1, 1),),
    ((True, 1),), ((False, 1),), ((1, True),), ((1, False),), ((5, 3), (2, True)), ((5, 3), (False, 4)),
    ((True, True),),
    ((None, 1),), ((1, None),), (("1", 1),), ((1, "1"),), ((b"1", 1),), (((1,), 1),), ((1, (1,)),), (([1], 1),),
    ((1, [1]),), (({}, 1),), ((1, {}),), ((plain_function, 1),), ((1, nested(18)),),
    ((),), ((1,),), ((1, 1, 1),), ((1, 1), ()), ((1, 1), (1,)), ((1, 1), (1, 1, 1)), ((1, 1, 1), (1, 1)),
    ((1, 1, None),),
    [], [(1, 1)], [[1, 1]], [(5, 3), (2, 4), (3, 1)], ([1, 1],), ((5, 3), [2, 4], (3, 1)), ((5, 3), (2, 4), [3, 1]),
    (1,), (1, 1), (1, (1, 1)), ((1, 1), 1), ((1, 1), None), (None,), (True,), ("11",), (b"11",), ("",), (range(1, 3),),
    ({1: 1, 2: 2},), ({},), (((1, 1),),), ((((1, 1),),),), ((1, 1), ((1, 1),)),
    "", "11", "5 3", b"", b"11", None, True, False, 0, 1, 11, -1, GREATEST, {}, {1: 1}, {(1, 1): 1}, range(1, 3),
    nested(2), nested(20), plain_function,
]


def small_blocks():
    """All blocks of up to three different entries, one or two or four times each, up to four blocks."""
    for many in [1, 2, 3]:
        yield from itertools.product(itertools.product([-1, 0, 3], [1, 2, 4]), repeat=many)
    yield from itertools.product(itertools.product([0, 1, 2], [1, 3]), repeat=4)


def middle_blocks():
    """Blocks of rows of up to some hundred entries, of several kinds."""
    chance = random.Random(28)
    found = [((7, 300),), ((7, 100),) * 3, ((-3, 1),), ((1, 1),), ((1, 300),), ((1, 1), (2, 1)), ((GREATEST, 1),)]
    found += [((GREATEST, 150), (-GREATEST, 150), (GREATEST, 1)), ((1, 1), (1, 1), (3, 1)), ((1, 150),) * 2 + ((3, 9),)]
    found += [tuple((entry, 30) for entry in range(10)), tuple((entry, 30) for entry in range(10, 0, -1))]
    found += [tuple((entry % 2, entry + 1) for entry in range(20))]
    found += [tuple((entry % 3, 40 - entry) for entry in range(12))]
    found += [reference_long.slow_blocks(rounds) for rounds in range(1, 11)]
    for different, many, longest in [(2, 30, 9), (3, 40, 7), (5, 8, 40), (9, 100, 3), (300, 150, 2), (GREATEST, 60, 4)]:
        for _ in range(6):
            entries = [chance.randint(-different // 2, different // 2) for _ in range(many)]
            found.append(tuple((entry, chance.randint(1, longest)) for entry in entries))
    return found


def count_kinds(many):
    """Counts of so many blocks: all great, all kinds of sizes, Fibonacci's numbers and powers, up and down."""
    chance = random.Random(many)
    fibonaccis = [min(reference_long.fibonacci(at % 134 + 1), GREATEST_COUNT) for at in range(many)]
    powers = [10 ** (at % 29) for at in range(many)]
    return [
        [GREATEST_COUNT] * many,
        [10 ** chance.randint(0, 28) for _ in range(many)],
        [chance.randint(1, 10 ** chance.randint(0, 28)) for _ in range(many)],
        [1 if chance.randrange(2) else GREATEST_COUNT for _ in range(many)],
        fibonaccis, fibonaccis[::-1], powers, powers[::-1],
    ]


def entry_kinds(many):
    """Entries of so many blocks: few different ones, many, falling and rising ones, and others."""
    chance = random.Random(-many)
    return [
        [7] * many,
        list(range(many)),
        list(range(many, 0, -1)),
        [at % 2 for at in range(many)],
        [-(at // 2) * 2 + at % 2 for at in range(many)],
        [-(at // 3) * 3 + at % 3 for at in range(many)],
        [(at & -at).bit_length() for at in range(1, many + 1)],
        [chance.randrange(3) for _ in range(many)],
        [chance.randrange(12) - at // 10 for at in range(many)],
        [chance.randint(-GREATEST, GREATEST) for _ in range(many)],
        [GREATEST_WEIGHT * chance.randrange(3) for _ in range(many)],
    ]


def huge_blocks():
    """Blocks with counts up to 10 ** 28, up to 200 of them."""
    found = []
    for many in [1, 2, 3, 50, 199, 200]:
        for entries in entry_kinds(many):
            found += [tuple(zip(entries, counts)) for counts in count_kinds(many)]
    return found + [reference_long.slow_blocks(rounds) for rounds in [12, 20, 33, 50, 75, 99, 100]]
