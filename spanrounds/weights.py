"""Rounds in which the places have weights."""

from spanrounds.checks import check_rounds, is_whole
from spanrounds.errors import InvalidWeights
from spanrounds.rows import all_spans, check_row

GREATEST_WEIGHT = 10 ** 28


def is_weights(row, value):
    """Tell whether any value is weights for the row."""
    check_row(row)
    if not isinstance(value, tuple) or len(value) != len(row):
        return False
    return all([is_whole(weight, 1, GREATEST_WEIGHT) for weight in value])


def check_weights(row, weights):
    """Raise InvalidRow unless this is a row, and InvalidWeights unless these are weights for it."""
    if not is_weights(row, weights):
        raise InvalidWeights("the weights are not a tuple of an integer from 1 to 10 ** 28 for each entry")


def weighted_after(row, weights, *, rounds=1):
    """Return the row after so many weighted rounds."""
    check_weights(row, weights)
    check_rounds(rounds)
    rows = weighted_rows(row, weights)
    # Rounds beyond the first row that does not change change nothing, however many they are.
    return rows[min(rounds, len(rows) - 1)]


def weighted_needed(row, weights):
    """Return the least number of weighted rounds after which the row does not change any more."""
    check_weights(row, weights)
    return len(weighted_rows(row, weights)) - 1


def weighted_rows(row, weights):
    """Return the list of the row and the rows after 1, 2, 3 and so on weighted rounds, up to the first that stays."""
    totals = [0]
    for weight in weights:
        totals.append(totals[-1] + weight)
    rows = [row]
    following = weighted_spans(row, totals)
    while following != rows[-1]:
        rows.append(following)
        following = weighted_spans(following, totals)
    return rows


def weighted_spans(row, totals):
    """Return the row after one weighted round, from the totals of the weights in front of each place."""
    spans = all_spans(row)
    return tuple([totals[place + 1] - totals[place + 1 - span] for place, span in enumerate(spans)])
