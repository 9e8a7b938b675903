"""What DOC.md says of long rows in section 11 and point [2], as plainly as possible, to compare the program with."""

import itertools


def spread(blocks):
    """[14]: the row that has each entry count times, one block after the other."""
    return tuple(entry for entry, count in blocks for _ in range(count))


def runs_of_row(row):
    """[14]: the longest stretches of equal entries of a row that is written out."""
    return tuple((entry, len(list(equal))) for entry, equal in itertools.groupby(row))


def joined(blocks):
    """The same for blocks that may be empty, and may have their neighbours' entries."""
    blocks = [(entry, count) for entry, count in blocks if count]
    groups = itertools.groupby(blocks, key=lambda block: block[0])
    return tuple((entry, sum(count for _, count in group)) for entry, group in groups)


def after_round(runs):
    """[6]: walk back from the first entry of each run; the others have an equal one directly in front."""
    found = []
    for at, (entry, count) in enumerate(runs):
        span = 1
        for front in range(at - 1, -1, -1):
            if runs[front][0] >= entry:
                break
            span += runs[front][1]
        found += [(span, 1), (1, count - 1)]
    return joined(found)


def runs_to_still(blocks):
    """The runs at first, and after each round, up to the first that a round does not change."""
    found = [joined(blocks)]
    following = after_round(found[0])
    while following != found[-1]:
        found.append(following)
        following = after_round(following)
    return found


def size_of(blocks):
    return sum(count for _, count in blocks)


def fibonacci(number):
    """[2]: F(1) = F(2) = 1, F(k) = F(k - 1) + F(k - 2), also for great numbers."""
    one, two = 1, 1
    for _ in range(number - 1):
        one, two = two, one + two
    return one


def most_rounds(size):
    """[2]: T, the greatest number with F(T + 2) at most n; one round for n = 1."""
    rounds = 0
    while fibonacci(rounds + 3) <= size:
        rounds += 1
    return max(rounds, 1)


def slow_blocks(rounds):
    """Blocks of a row with F(rounds + 2) entries that needs so many rounds: falling parts with lengths after F."""
    lengths = [fibonacci(number) for number in range(rounds, 1, -1)] + [2]
    assert sum(lengths) == fibonacci(rounds + 2)
    blocks = []
    for number, length in enumerate(lengths):
        # The last entry of a part is greater than the others of it, and all of them less than the parts in front.
        blocks += [(-2 * number - 1, length - 1), (-2 * number, 1)]
    return tuple(block for block in blocks if block[1])


def steps(runs, other_runs):
    """The pairs of entries that two long rows of the same size have at a place, each pair at least once."""
    pairs = []
    one, two = list(runs[::-1]), list(other_runs[::-1])
    while one and two:
        (entry, count), (other, many) = one.pop(), two.pop()
        pairs.append((entry, other))
        if count > many:
            one.append((entry, count - many))
        if many > count:
            two.append((other, many - count))
    assert not one and not two, "the rows have different sizes"
    return pairs
