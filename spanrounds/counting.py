"""How many span rows and still rows there are, and their numbers."""

from spanrounds.checks import check_number, check_size
from spanrounds.errors import NotStill
from spanrounds.forests import check_spans
from spanrounds.settling import is_still


def count_spans(size):
    """Return the number of span rows with so many entries."""
    check_size(size)
    return spans_counts(size)[size][0]


def nth_spans(size, number):
    """Return the span row that has a number in ascending order."""
    check_size(size)
    counts = spans_counts(size)
    check_number(number, counts[size][0])
    spans = []
    roots = []
    for left in range(size - 1, -1, -1):
        span = 1
        # An entry that covers fewer roots is less: all rows with such an entry come first.
        while number >= counts[left][len(roots) + 1]:
            number = number - counts[left][len(roots) + 1]
            span = span + roots.pop()
        roots.append(span)
        spans.append(span)
    return tuple(spans)


def spans_number(spans):
    """Return the number that a span row has in ascending order."""
    check_spans(spans)
    counts = spans_counts(len(spans))
    number = 0
    roots = []
    for place, entry in enumerate(spans):
        span = 1
        while span < entry:
            number = number + counts[len(spans) - 1 - place][len(roots) + 1]
            span = span + roots.pop()
        roots.append(entry)
    return number


def spans_counts(size):
    """Return the numbers of ways in which span rows go on: by the entries that are left, then by the roots so far."""
    counts = [[1] * (size + 1)]
    for _ in range(size):
        count = 0
        ways = []
        # The entry that follows covers some of the roots, or none, and is a root: from 1 to one more remain.
        for fewer in counts[-1][1:]:
            count = count + fewer
            ways.append(count)
        counts.append(ways)
    return counts


def count_still(size):
    """Return the number of still rows with so many entries."""
    check_size(size)
    return still_counts(size)[size][1]


def nth_still(size, number):
    """Return the still row that has a number in ascending order of the reversed rows."""
    check_size(size)
    counts = still_counts(size)
    check_number(number, counts[size][1])
    return tuple(still_entries(counts, size, number))


def still_entries(counts, size, number):
    """Return the list of the entries of the still row that has a number."""
    row = []
    least = 1
    while len(row) < size:
        left = size - len(row)
        # All rows whose last root is less come first.
        while number >= counts[left][least] - counts[left][least + 1]:
            number = number - counts[left][least] + counts[left][least + 1]
            least = least + 1
        # The tree of this root is compared before the trees in front of it.
        inner, number = divmod(number, counts[left - least][least])
        row = still_entries(counts, least - 1, inner) + [least] + row
    return row


def still_number(row):
    """Return the number that a still row has in ascending order of the reversed rows."""
    if not is_still(row):
        raise NotStill("a round changes the row")
    return number_in(still_counts(len(row)), row)


def number_in(counts, row):
    """Return the number of a still row, 0 for the empty one."""
    number = 0
    least = 1
    while row:
        last = row[-1]
        left = len(row) - last
        inner = number_in(counts, row[left:-1])
        number = number + counts[len(row)][least] - counts[len(row)][last] + inner * counts[left][last]
        row = row[:left]
        least = last
    return number


def still_counts(size):
    """Return the numbers of still rows: by the number of entries, then by the least entry that a root may have."""
    counts = [[1] * (size + 2)]
    for entries in range(1, size + 1):
        ways = [0] * (size + 2)
        for least in range(entries, 0, -1):
            # Either no root has the least entry, or the last one has it, as no root behind a root is greater.
            ways[least] = ways[least + 1] + counts[least - 1][1] * counts[entries - least][least]
        counts.append(ways)
    return counts
