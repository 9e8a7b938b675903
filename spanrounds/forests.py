"""Span rows as forests, and their brackets."""

from spanrounds.checks import MOST_ENTRIES, check_place
from spanrounds.errors import InvalidBrackets, NotSpans
from spanrounds.rows import is_row


def is_spans(value):
    """Tell whether any value is a span row."""
    if not is_row(value):
        return False
    for place in range(len(value)):
        if not covers_whole_trees(value, place):
            return False
    return True


def covers_whole_trees(row, place):
    """Tell whether the entry covers its place and some trees in front; the entries in front are spans."""
    covered = 1
    while covered < row[place] and covered <= place:
        covered = covered + row[place - covered]
    return covered == row[place]


def check_spans(spans):
    """Raise NotSpans unless this is a span row."""
    if not is_spans(spans):
        raise NotSpans("the spans are not a row that results from some row by one round")


def parent_of(spans, place):
    """Return the parent of a place, or None for a root."""
    check_spans(spans)
    check_place(place, len(spans))
    for behind in range(place + 1, len(spans)):
        if first_covered(spans, behind) <= place:
            return behind
    return None


def children_of(spans, place):
    """Return the ascending list of the children of a place."""
    check_spans(spans)
    check_place(place, len(spans))
    return uncovered(spans, first_covered(spans, place), place)


def roots_of(spans):
    """Return the ascending list of the roots."""
    check_spans(spans)
    return uncovered(spans, 0, len(spans))


def first_covered(spans, place):
    """Return the first place that a place covers."""
    return place - spans[place] + 1


def uncovered(spans, first, behind):
    """Return the ascending list of the places from first, in front of behind, that no other of them covers."""
    found = []
    place = behind - 1
    while place >= first:
        found.append(place)
        place = first_covered(spans, place) - 1
    return found[::-1]


def to_brackets(spans):
    """Return the brackets of a span row."""
    check_spans(spans)
    opening = [0] * len(spans)
    for place in range(len(spans)):
        opening[first_covered(spans, place)] += 1
    # Parents stand behind their children, so the closing brackets follow each other as the places do.
    return "".join(["(" * many + ")" for many in opening])


def from_brackets(text):
    """Return the span row with these brackets."""
    if not isinstance(text, str):
        raise InvalidBrackets("the brackets are not a string")
    spans = []
    firsts = []
    for sign in text:
        if sign == "(":
            firsts.append(len(spans))
        elif sign == ")" and firsts:
            first = firsts.pop()
            spans.append(len(spans) - first + 1)
        else:
            raise InvalidBrackets("a sign is no bracket, or it closes nothing")
    if firsts or not 1 <= len(spans) <= MOST_ENTRIES:
        raise InvalidBrackets("a bracket is not closed, or there are not 1 to 100 pairs")
    return tuple(spans)


def stretch_of(spans, place):
    """Return the first and the last place of the stretch of a place."""
    check_spans(spans)
    check_place(place, len(spans))
    return all_stretches(spans)[place]


def all_stretches(spans):
    """Return the list of the first and the last place of the stretch of each place, as tuples."""
    lasts = [len(spans) - 1] * len(spans)
    # From the back, so that of all the places that cover a place the first one, its parent, is noted last.
    for place in range(len(spans) - 1, -1, -1):
        for descendant in range(first_covered(spans, place), place):
            lasts[descendant] = place - 1
    return [(first_covered(spans, place), last) for place, last in enumerate(lasts)]
