"""Counts and numbers of sections 7 and 8, found in other ways than the program does, to compare it with."""

import functools
import math

import reference

LONGEST = 100


def spans_counts():
    """The numbers of span rows with 0 to 100 entries: the last root, with what it covers, behind another forest."""
    counts = [1]
    while len(counts) <= LONGEST:
        counts.append(sum(front * inner for front, inner in zip(counts, reversed(counts))))
    return counts


def ballot(roots, left):
    """The number of ways in which a span row with so many roots goes on for so many entries."""
    return math.comb(2 * left + roots, left) * (roots + 1) // (left + roots + 1)


def spans_number(spans):
    """How many span rows are less: those that agree with this one up to some place, and are less there."""
    number = 0
    for place, entry in enumerate(spans):
        possible = reference.possible_entries(spans, place)
        for covered_roots, less in enumerate(possible):
            if less < entry:
                number += ballot(len(possible) - covered_roots, len(spans) - 1 - place)
    return number


def following_spans(spans):
    """The next span row in ascending order, or None."""
    for place in reversed(range(len(spans))):
        greater = [entry for entry in reference.possible_entries(spans, place) if entry > spans[place]]
        if greater:
            return spans[:place] + (greater[0],) + (1,) * (len(spans) - 1 - place)
    return None


def product_up_to(most, factors):
    """The product of 1 / (1 - factor * x ** size) over some sizes and factors, up to x ** most."""
    counts = [1] + [0] * most
    for size, factor in factors:
        for total in range(size, most + 1):
            counts[total] += factor * counts[total - size]
    return counts


@functools.lru_cache(maxsize=None)
def still_counts():
    """[2]: f(0) to f(100), the product of 1 / (1 - f(s - 1) x ** s) over all s from 1 on."""
    counts = [1]
    for size in range(1, LONGEST + 1):
        # No factor of a greater s has a part in f(size), and f(s - 1) is known for all of these.
        counts.append(product_up_to(size, [(one, counts[one - 1]) for one in range(1, size + 1)])[size])
    return counts


@functools.lru_cache(maxsize=None)
def still_counts_from(least):
    """The same for the still rows in which all roots have at least this entry."""
    sizes = range(least, LONGEST + 1)
    return product_up_to(LONGEST, [(size, still_counts()[size - 1]) for size in sizes])


def open_forests(entries, size):
    """The places left and the least entry of each forest begun, after some entries of a still row from its end."""
    forests = [(size, 1)]
    for entry in entries:
        left, least = forests.pop()
        forests += [(left - entry, entry), (entry - 1, 1)]
        while forests and forests[-1][0] == 0:
            forests.pop()
    return forests


def possible_still(forests):
    """The entries that a still row can have next, from its end: what is left must be able to be as great."""
    left, least = forests[-1]
    return [entry for entry in range(least, left + 1) if left == entry or left - entry >= entry]


def still_number(row):
    """How many still rows are less, in the order of the reversed rows."""
    number = 0
    back = row[::-1]
    for place, entry in enumerate(back):
        for less in possible_still(open_forests(back[:place], len(row))):
            if less < entry:
                forests = open_forests(back[:place] + (less,), len(row))
                number += math.prod(still_counts_from(least)[left] for left, least in forests)
    return number


def following_still(row):
    """The next still row in the order of the reversed rows, or None."""
    back = row[::-1]
    for place in reversed(range(len(back))):
        possible = possible_still(open_forests(back[:place], len(row)))
        greater = [entry for entry in possible if entry > back[place]]
        if greater:
            found = back[:place] + (greater[0],)
            while len(found) < len(row):
                found += (possible_still(open_forests(found, len(row)))[0],)
            return found[::-1]
    return None


def greatest_place(spans, first, last):
    """The place whose stretch begins and ends with these places: of those that cover from the first on, the last."""
    return max(place for place in range(first, last + 1) if place - spans[place] + 1 == first)


def orders_between(spans, first, last, known):
    """How many ways there are to order the entries of a stretch: its two sides are mixed in any way."""
    if first > last:
        return 1
    if (first, last) not in known:
        place = greatest_place(spans, first, last)
        front = orders_between(spans, first, place - 1, known)
        behind = orders_between(spans, place + 1, last, known)
        known[first, last] = math.comb(last - first, place - first) * front * behind
    return known[first, last]


def count_orders(spans):
    return orders_between(spans, 0, len(spans) - 1, {})


def runs_left(size, taken):
    """The runs of neighbouring places that are not taken."""
    runs = []
    for place in sorted(set(range(size)) - set(taken)):
        if runs and runs[-1][1] == place - 1:
            runs[-1] = (runs[-1][0], place)
        else:
            runs.append((place, place))
    return runs


def ways_behind(spans, taken, known):
    """The number of sequences that begin with the places taken."""
    left = len(spans) - len(taken)
    ways = 1
    for first, last in runs_left(len(spans), taken):
        ways *= math.comb(left, last - first + 1) * orders_between(spans, first, last, known)
        left -= last - first + 1
    return ways


def free_places(spans, taken):
    """The places that a sequence can go on with, ascending."""
    return sorted(greatest_place(spans, first, last) for first, last in runs_left(len(spans), taken))


def order_number(order):
    """How many orders with the same spans have a sequence that is less."""
    spans, known = reference.after_round(order), {}
    sequence = reference.sequence(order)
    number = 0
    for at, place in enumerate(sequence):
        for less in free_places(spans, sequence[:at]):
            if less < place:
                number += ways_behind(spans, sequence[:at] + (less,), known)
    return number


def following_order(order):
    """The order with the next sequence among those with the same spans, or None."""
    spans = reference.after_round(order)
    sequence = reference.sequence(order)
    for at in reversed(range(len(order))):
        greater = [place for place in free_places(spans, sequence[:at]) if place > sequence[at]]
        if greater:
            found = sequence[:at] + (greater[0],)
            while len(found) < len(order):
                found += (free_places(spans, found)[0],)
            return tuple(len(order) - 1 - found.index(place) for place in range(len(order)))
    return None


@functools.lru_cache(maxsize=None)
def count_rows(spans, below):
    """The number of rows of integers from 0 to below - 1 with these spans, root by root from the front."""
    if not spans:
        return 1
    trees = []
    while spans:
        trees.insert(0, spans[len(spans) - spans[-1]:-1])
        spans = spans[:len(spans) - spans[-1]]
    ways = None
    for inner in trees:
        # ways[x] is the number of rows up to this root that have x there; the root in front is at least as great.
        fronts = [1] * below if ways is None else [sum(ways[entry:]) for entry in range(below)]
        ways = [fronts[entry] * count_rows(inner, entry) for entry in range(below)]
    return sum(ways)
