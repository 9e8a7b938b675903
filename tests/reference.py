"""What DOC.md says, place by place and as plainly as possible, to compare the program with."""

import itertools


def hinderer(row, place):
    """[6]: the last place in front whose entry is at least as great."""
    fronts = [front for front in range(place) if row[front] >= row[place]]
    return fronts[-1] if fronts else None


def span(row, place):
    """[6]: the number of places from behind the hinderer, or from the front, up to the place."""
    front = hinderer(row, place)
    return place + 1 if front is None else place - front


def after_round(row):
    """[6]: all entries replaced by their spans, at the same time."""
    return tuple(span(row, place) for place in range(len(row)))


def after_rounds(row, rounds):
    for _ in range(rounds):
        row = after_round(row)
    return row


def rows_to_still(row):
    rows = [row]
    while after_round(rows[-1]) != rows[-1]:
        rows.append(after_round(rows[-1]))
    return rows


def rounds_at(rows, place):
    """Section 5: the least number of rounds after which the entry is final and stays so."""
    for rounds in range(len(rows)):
        if all(later[place] == rows[-1][place] for later in rows[rounds:]):
            return rounds
    raise AssertionError("the last row holds the final entry")


def meeting(row, other_row):
    """Section 5: the least number of rounds after which both rows are equal, or None."""
    for rounds in range(len(row) + 1):
        if after_rounds(row, rounds) == after_rounds(other_row, rounds):
            return rounds
    return None


def fibonacci(number):
    """[2]: F(1) = F(2) = 1, F(k) = F(k - 1) + F(k - 2)."""
    return 1 if number <= 2 else fibonacci(number - 1) + fibonacci(number - 2)


def most_rounds(size):
    """[2]: T, the greatest number with F(T + 2) at most n; one round for n = 1."""
    if size == 1:
        return 1
    return max(rounds for rounds in range(20) if fibonacci(rounds + 2) <= size)


def possible_entries(row, place):
    """[7]: 1, or 1 plus the entry in front, or 1 plus this plus the one in front of what it covers, ..."""
    possible = [1]
    while possible[-1] <= place:
        possible.append(possible[-1] + row[place - possible[-1]])
    return possible


def is_span_row(row):
    """[7], for a tuple of 1 to 100 integers."""
    for place, entry in enumerate(row):
        if entry not in possible_entries(row, place):
            return False
    return True


def span_rows(size):
    """All span rows with so many entries: what results from all rows of size values, by one round."""
    return sorted({after_round(row) for row in itertools.product(range(size), repeat=size)})


def built_span_rows(size):
    """The same by [7], entry by entry, for sizes that are too great to go through all rows."""
    rows = [()]
    for place in range(size):
        rows = [row + (entry,) for row in rows for entry in possible_entries(row, place)]
    return rows


def covered(spans, place):
    """[7]: an entry c at place i covers the places i - c + 1 to i."""
    return set(range(place - spans[place] + 1, place + 1))


def descendants(spans, place):
    """[8]: the places that a place covers, without itself."""
    return covered(spans, place) - {place}


def uncovered(spans, places):
    """Those of the places that no other one of them covers, ascending."""
    return sorted(one for one in places if not any(one in descendants(spans, two) for two in places))


def row_with(spans):
    """A row with these spans that is no span row: how many places cover each place, as a negative number."""
    places = range(len(spans))
    return tuple(-sum(place in descendants(spans, other) for other in places) for place in places)


def children(spans, place):
    """[8]: the descendants that no other descendant covers."""
    return uncovered(spans, descendants(spans, place))


def roots(spans):
    """[8]: the places without a parent."""
    return [place for place in range(len(spans)) if parent(spans, place) is None]


def parent(spans, place):
    """[8]: the place of which this place is a child."""
    parents = [other for other in range(len(spans)) if place in children(spans, other)]
    assert len(parents) <= 1
    return parents[0] if parents else None


def brackets(spans, places=None):
    """[8]: for each root, in order, an opening bracket, its children's brackets, a closing bracket."""
    places = roots(spans) if places is None else places
    return "".join("(" + brackets(spans, children(spans, place)) + ")" for place in places)


def stretch(spans, place):
    """[9]: from the first place covered, to in front of the first place behind that covers the place."""
    behind = [other for other in range(place + 1, len(spans)) if place in covered(spans, other)]
    return min(covered(spans, place)), (behind[0] if behind else len(spans)) - 1


def has_still_siblings(spans):
    """[8]: of two neighbouring siblings, the one in front has at least the entry of the other one."""
    families = [roots(spans)] + [children(spans, place) for place in range(len(spans))]
    return all(spans[one] >= spans[two] for family in families for one, two in zip(family, family[1:]))


def still_rows(size):
    """[8], in the order of section 7: sorted by their reversed rows."""
    return sorted((row for row in built_span_rows(size) if has_still_siblings(row)), key=lambda row: row[::-1])


def sequence(order):
    """[11]: the places from the one with the greatest integer to the one with the least."""
    return tuple(order.index(integer) for integer in reversed(range(len(order))))


def by_spans(rows):
    """The rows as lists by their span rows."""
    groups = {}
    for row in rows:
        groups.setdefault(after_round(row), []).append(row)
    return groups


def sign(row, place, other):
    """How two entries of one row stand to each other."""
    return "<" if row[place] < row[other] else ">" if row[place] > row[other] else "="


def relations(spans):
    """[12] for all pairs of different places."""
    places = range(len(spans))
    parents = [min((one for one in places if place in descendants(spans, one)), default=None) for place in places]
    stretches = [stretch(spans, place) for place in places]
    found = {}
    for high in places:
        for low in places:
            is_covered = low in descendants(spans, high)
            if is_covered or high < low <= stretches[high][1]:
                may_be_equal = not is_covered and parents[low] == parents[high]
                found[low, high] = "<=" if may_be_equal else "<"
                found[high, low] = ">=" if may_be_equal else ">"
    return {(one, two): found.get((one, two), "open") for one in places for two in places if one != two}


def weighted_round(row, weights):
    """[13]: each entry becomes the sum of the weights from behind its hinderer up to itself."""
    fronts = [hinderer(row, place) for place in range(len(row))]
    return tuple(sum(weights[0 if front is None else front + 1:place + 1]) for place, front in enumerate(fronts))


def weighted_rows(row, weights):
    """The row and the rows after each weighted round up to the first that does not change."""
    rows = [row]
    while weighted_round(rows[-1], weights) != rows[-1]:
        rows.append(weighted_round(rows[-1], weights))
    return rows
