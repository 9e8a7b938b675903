"""What the spans tell about the entries."""

from spanrounds.checks import check_place
from spanrounds.errors import InvalidPlace, InvalidSign
from spanrounds.forests import all_stretches, check_spans

SIGNS = ("<", "=", ">")


def relation(spans, place, other):
    """Return how the entry at a place stands to another one: "<", "<=", ">", ">=" or "open"."""
    check_pair(spans, place, other)
    return relation_in(all_stretches(spans), place, other)


def check_pair(spans, place, other):
    """Raise NotSpans unless this is a span row, and InvalidPlace unless these are two places of it."""
    check_spans(spans)
    check_place(place, len(spans))
    check_place(other, len(spans))
    if place == other:
        raise InvalidPlace("the other place is the same one")


def relation_in(stretches, place, other):
    """Return how the entries at two places stand to each other in every row with these stretches."""
    if is_within(place, stretches[other]):
        less, less_or_equal = "<", "<="
    elif is_within(other, stretches[place]):
        less, less_or_equal = ">", ">="
    else:
        return "open"
    return less_or_equal if are_siblings(stretches, place, other) else less


def is_within(place, stretch):
    """Tell whether a place stands in a stretch."""
    first, last = stretch
    return first <= place <= last


def are_siblings(stretches, place, other):
    """Tell whether two places have the same parent, or none."""
    # A stretch ends in front of the parent, or with the row.
    return stretches[place][1] == stretches[other][1]


def is_certain(spans, place, other):
    """Tell whether one of two places stands in the stretch of the other one."""
    return relation(spans, place, other) != "open"


def example(spans, place, other, *, sign):
    """Return a row of integers from 0 to n - 1 with these spans and this sign between two entries, or None."""
    check_pair(spans, place, other)
    if sign not in SIGNS:
        raise InvalidSign("the sign is not one of the strings <, = and >")
    stretches = all_stretches(spans)
    certain = relation_in(stretches, place, other)
    # A relation is written with the signs that it allows.
    if certain != "open" and sign not in certain:
        return None
    if sign == "=":
        return row_with_equals(stretches, equals(stretches, place, other))
    return row_with_equals(stretches, [place if sign == ">" else other])


def equals(stretches, place, other):
    """Return the list of two places that can be equal, and of those that are equal to them then."""
    if not are_siblings(stretches, place, other):
        return [place, other]
    between = range(min(place, other), max(place, other) + 1)
    return [sibling for sibling in between if are_siblings(stretches, sibling, place)]


def row_with_equals(stretches, places):
    """Return a row that is equal at these places, and less at all others but those in whose stretches they stand."""
    # A stretch within another one is shorter, so each place comes behind those in whose stretches it stands.
    descending = sorted(
        list(range(len(stretches))),
        key=lambda at: (not holds_any(stretches[at], places), stretches[at][0] - stretches[at][1]),
    )
    row = [0] * len(stretches)
    for number, place in enumerate(descending):
        row[place] = len(stretches) - 1 - number
    # None of the other places that come first stands in the stretch of one of these: they can stay greater.
    least = min([row[place] for place in places])
    for place in places:
        row[place] = least
    return tuple(row)


def holds_any(stretch, places):
    """Tell whether any of the places stands in a stretch."""
    return any([is_within(place, stretch) for place in places])
