"""Rows with given spans: orders, which have the integers 0 to n - 1 once each, and rows of integers below a bound."""

from spanrounds.checks import check_number, is_whole
from spanrounds.errors import InvalidBelow, InvalidOrder
from spanrounds.forests import all_stretches, check_spans
from spanrounds.rows import all_spans, is_row

GREATEST_BELOW = 10 ** 30


class Sequences:
    """The sequences of the orders with these spans, as far as they begin with the places taken."""

    def __init__(self, spans):
        self.stretches = all_stretches(spans)
        self.left = len(spans)
        self.count = count_sequences(self.stretches)
        # For each place, in how many stretches of places that are not taken it stands, its own included.
        self.holders = [0] * len(spans)
        for stretch in self.stretches:
            self.add_holders(stretch, 1)

    def add_holders(self, stretch, many):
        """Note that the places of a stretch stand in so many stretches more."""
        first, last = stretch
        for place in range(first, last + 1):
            self.holders[place] += many

    def share(self, place):
        """Return how many of the sequences go on with a place that can come next."""
        # In the formula that counts them the factorial loses a factor, and the product loses this stretch.
        return self.count * length_of(self.stretches[place]) // self.left

    def shares(self):
        """Return, ascending, the places that can come next, each with its share."""
        # All places in whose stretches such a place stands are taken, but for itself.
        return [(place, self.share(place)) for place, many in enumerate(self.holders) if many == 1]

    def take(self, place):
        """Go on with a place that can come next."""
        self.count = self.share(place)
        self.left = self.left - 1
        self.add_holders(self.stretches[place], -1)


def length_of(stretch):
    """Return the number of places of a stretch."""
    first, last = stretch
    return last - first + 1


def count_sequences(stretches):
    """Return the number of orders with these stretches."""
    factorial = 1
    lengths = 1
    for place, stretch in enumerate(stretches):
        factorial = factorial * (place + 1)
        lengths = lengths * length_of(stretch)
    return factorial // lengths


def count_orders(spans):
    """Return the number of orders with these spans."""
    check_spans(spans)
    return count_sequences(all_stretches(spans))


def nth_order(spans, number):
    """Return the order with these spans that has a number in ascending order of the sequences."""
    check_spans(spans)
    sequences = Sequences(spans)
    check_number(number, sequences.count)
    order = [0] * len(spans)
    for integer in range(len(spans) - 1, -1, -1):
        place, number = place_with(sequences.shares(), number)
        order[place] = integer
        sequences.take(place)
    return tuple(order)


def place_with(shares, number):
    """Return the place with which the sequence that has a number goes on, and its number among those that do so."""
    at = 0
    while number >= shares[at][1]:
        number = number - shares[at][1]
        at = at + 1
    return shares[at][0], number


def is_order(value):
    """Tell whether any value is an order of 1 to 100 places."""
    return is_row(value) and sorted(value) == list(range(len(value)))


def order_number(order):
    """Return the number of an order among those with its spans, in ascending order of the sequences."""
    if not is_order(order):
        raise InvalidOrder("the order is not a tuple of the integers 0 to n - 1, n from 1 to 100, each once")
    sequences = Sequences(all_spans(order))
    number = 0
    for integer in range(len(order) - 1, -1, -1):
        taken = order.index(integer)
        number = number + sum([share for place, share in sequences.shares() if place < taken])
        sequences.take(taken)
    return number


def count_rows(spans, *, below):
    """Return the number of rows of integers from 0 to below - 1 with these spans."""
    check_spans(spans)
    if not is_whole(below, 1, GREATEST_BELOW):
        raise InvalidBelow("the bound is not an integer from 1 to 10 ** 30")
    return value_at(counts_below(spans), below)


def counts_below(spans):
    """Return the numbers of rows of integers with these spans below each bound from 0 to the number of places."""
    stretches = all_stretches(spans)
    empty = [1] * (len(spans) + 1)
    counts = {}
    # In front of its place a stretch is that of the first child, behind it that of the next sibling, or empty.
    for first, last in sorted(stretches, key=length_of):
        place = stretches.index((first, last))
        covered = counts.get((first, place - 1), empty)
        behind = counts.get((place + 1, last), empty)
        count = 0
        ways = [0]
        for entry in range(len(spans)):
            # What the place covers is less than its entry, and what stands behind is at most as great.
            count = count + covered[entry] * behind[entry + 1]
            ways.append(count)
        counts[(first, last)] = ways
    return counts[(0, len(spans) - 1)]


def value_at(values, point):
    """Return the value at a point of the polynomial with these values at 0, 1, 2 and so on, and no higher degree."""
    # Newton's formula: the first of each of the differences, times a binomial number of the point.
    value = 0
    binomial = 1
    for step in range(len(values)):
        value = value + values[0] * binomial
        binomial = binomial * (point - step) // (step + 1)
        values = [greater - less for less, greater in zip(values, values[1:])]
    return value
