"""Every example of DOC.md, sections 4 to 14, as written there, the table of [10], and those of README.md."""

import doctest
import pathlib
import unittest

from spanrounds.forests import from_brackets, to_brackets
from spanrounds.rows import row_after, rows_of
from spanrounds.settling import rounds_needed

ROWS = """
>>> from spanrounds.rows import is_row
>>> [is_row((9, -7, 9)), is_row([9]), is_row(()), is_row((True,))]
[True, False, False, False]

>>> from spanrounds.rows import hinderer, span_of
>>> row = (9, 7, 8, 5, 6, 4)
>>> [[hinderer(row, place) for place in [0, 2, 4]], [span_of(row, place) for place in [0, 2, 4]]]
[[None, 0, 2], [1, 2, 2]]

>>> from spanrounds.rows import row_after
>>> row = (9, 7, 8, 5, 6, 4)
>>> [row_after(row), row_after(row, rounds=10 ** 30), row_after((5, 5), rounds=0)]
[(1, 1, 2, 1, 2, 1), (1, 1, 3, 1, 2, 1), (5, 5)]

>>> from spanrounds.rows import rows_of
>>> [list(rows_of((4, 2, 3))), list(rows_of((1, 2)))]
[[(4, 2, 3), (1, 1, 2), (1, 1, 3)], [(1, 2)]]
"""

SETTLING = """
>>> from spanrounds.settling import final_row, is_still
>>> row = (9, 7, 8, 5, 6, 4)
>>> [is_still(row), final_row(row), is_still((1, 1, 3))]
[False, (1, 1, 3, 1, 2, 1), True]

>>> from spanrounds.settling import rounds_at, rounds_needed
>>> row = (9, 7, 8, 5, 6, 4)
>>> [rounds_needed(row), [rounds_at(row, place) for place in range(6)], rounds_needed((7, 8, 9, 5, 6, 4, 2, 3))]
[2, [1, 1, 2, 1, 1, 1], 4]

>>> from spanrounds.settling import most_rounds, rounds_needed, slowest_row
>>> [[most_rounds(size), rounds_needed(slowest_row(size))] for size in [1, 2, 3, 4, 5, 8, 13, 100]]
[[1, 1], [1, 1], [2, 2], [2, 2], [3, 3], [4, 4], [5, 5], [9, 9]]

>>> from spanrounds.settling import meeting
>>> [meeting((4, 2, 3), (1, 1, 3)), meeting((5, 5), (5, 5)), meeting((1, 2), (2, 1))]
[2, 0, None]
"""

FORESTS = """
>>> from spanrounds.forests import is_spans
>>> [is_spans((1, 1, 2)), is_spans((1, 2, 2)), is_spans((2,))]
[True, False, False]

>>> from spanrounds.forests import children_of, parent_of
>>> spans = (1, 1, 3, 1, 2, 1)
>>> [[parent_of(spans, place) for place in range(6)], children_of(spans, 2), children_of(spans, 5)]
[[2, 2, None, 4, None, None], [0, 1], []]

>>> from spanrounds.forests import roots_of
>>> [roots_of((1, 1, 3, 1, 2, 1)), roots_of((1, 2, 3))]
[[2, 4, 5], [2]]

>>> from spanrounds.forests import from_brackets, to_brackets
>>> [to_brackets((1, 1, 3, 1, 2, 1)), from_brackets('(())()')]
['(()())(())()', (1, 2, 1)]

>>> from spanrounds.forests import stretch_of
>>> [stretch_of((1, 1, 2, 1, 2, 1), place) for place in range(6)]
[(0, 5), (1, 1), (1, 5), (3, 3), (3, 5), (5, 5)]
"""

COUNTING = """
>>> from spanrounds.counting import count_spans, count_still
>>> [[count_spans(size) for size in range(1, 6)], [count_still(size) for size in range(1, 7)]]
[[1, 2, 5, 14, 42], [1, 2, 4, 9, 20, 49]]

>>> from spanrounds.counting import nth_spans, spans_number
>>> [[nth_spans(3, number) for number in range(5)], spans_number((1, 1, 2, 1, 2, 1))]
[[(1, 1, 1), (1, 1, 2), (1, 1, 3), (1, 2, 1), (1, 2, 3)], 53]

>>> from spanrounds.counting import nth_still, still_number
>>> [[nth_still(3, number) for number in range(4)], still_number((1, 1, 3, 1, 2, 1))]
[[(1, 1, 1), (1, 2, 1), (1, 1, 3), (1, 2, 3)], 9]
"""

ORDERS = """
>>> from spanrounds.orders import count_orders
>>> [count_orders(spans) for spans in [(1, 1, 2, 1, 2, 1), (1, 2, 3), (1, 1)]]
[8, 1, 1]

>>> from spanrounds.orders import nth_order, order_number
>>> spans = (1, 1, 2, 1, 2, 1)
>>> [nth_order(spans, 0), nth_order(spans, 7), order_number((5, 3, 4, 1, 2, 0))]
[(5, 3, 4, 1, 2, 0), (5, 0, 4, 1, 3, 2), 0]

>>> from spanrounds.orders import count_rows
>>> [count_rows((1, 1), below=3), count_rows((1, 2), below=3), count_rows((1, 1, 2), below=2)]
[6, 3, 1]
"""

READING = """
>>> from spanrounds.reading import relation
>>> spans = (1, 1, 2, 1, 2, 1)
>>> [relation(spans, one, other) for one, other in [(0, 2), (0, 1), (1, 2), (4, 2), (1, 3)]]
['>=', '>', '<', '<=', 'open']

>>> from spanrounds.reading import example
>>> from spanrounds.rows import row_after
>>> spans = (1, 1, 2, 1, 2, 1)
>>> found = [example(spans, 1, 3, sign=sign) for sign in ["<", "=", ">"]]
>>> [[row_after(row) for row in found] == [spans] * 3, example(spans, 0, 1, sign="=")]
[True, None]

>>> from spanrounds.reading import is_certain
>>> spans = (1, 1, 2, 1, 2, 1)
>>> [is_certain(spans, 0, 1), is_certain(spans, 1, 3)]
[True, False]
"""

WEIGHTS = """
>>> from spanrounds.weights import is_weights
>>> [is_weights((9, 8, 7), (2, 1, 2)), is_weights((9, 8, 7), (2, 0, 2)), is_weights((9, 8), (1,))]
[True, False, False]

>>> from spanrounds.weights import weighted_after
>>> [weighted_after((9, 8, 7), (2, 1, 2), rounds=rounds) for rounds in [1, 2, 3, 10 ** 30]]
[(2, 1, 2), (2, 1, 3), (2, 1, 5), (2, 1, 5)]

>>> from spanrounds.weights import weighted_needed
>>> [weighted_needed((9, 8, 7), (2, 1, 2)), weighted_needed((5, 4), (1, 2)), weighted_needed((2, 1), (2, 1))]
[3, 2, 0]
"""

LONG = """
>>> from spanrounds.long import is_blocks
>>> [is_blocks(((7, 10 ** 28), (7, 5))), is_blocks(((7, 0),)), is_blocks(())]
[True, False, False]

>>> from spanrounds.long import long_after
>>> blocks = ((5, 3), (2, 4), (3, 1))
>>> [long_after(blocks, rounds=rounds) for rounds in [0, 1, 2, 3]]
[((5, 3), (2, 4), (3, 1)), ((1, 7), (5, 1)), ((1, 7), (8, 1)), ((1, 7), (8, 1))]

>>> from spanrounds.long import long_count, long_entry
>>> blocks = ((2, 10 ** 28), (7, 1))
>>> [long_entry(blocks, 10 ** 28), long_entry(blocks, 5), long_count(blocks, 1), long_count(blocks, 7, rounds=0)]
[10000000000000000000000000001, 1, 10000000000000000000000000000, 1]

>>> from spanrounds.long import long_needed
>>> [long_needed(((5, 3), (2, 4), (3, 1))), long_needed(((1, 10 ** 28),)), long_needed(((4, 1), (2, 1), (3, 1)))]
[2, 0, 2]
"""

LIVE = """
>>> from spanrounds.live import LiveRow
>>> live = LiveRow((4, 2, 3))
>>> [live.row, live.spans, live.stands, len(live), LiveRow.LIMIT]
[(4, 2, 3), (1, 1, 2), False, 3, 100]

>>> from spanrounds.live import LiveRow
>>> LiveRow.of(4, 2, 3).spans
(1, 1, 2)

>>> from spanrounds.live import LiveRow
>>> LiveRow.still(3, number=2).row
(1, 1, 3)

>>> from spanrounds.live import LiveRow
>>> live = LiveRow.of(4, 2, 3)
>>> [live.play(), live.play(rounds=10 ** 30), live.stands]
[(1, 1, 2), (1, 1, 3), True]

>>> from spanrounds.live import LiveRow
>>> live = LiveRow.of(4, 3)
>>> live.put(1, 2)
>>> [live.row, live.spans]
[(4, 2, 3), (1, 1, 2)]

>>> from spanrounds.live import LiveRow
>>> live = LiveRow.of(4, 2, 3)
>>> [live.take(0), live.spans]
[4, (1, 2)]

>>> from spanrounds.live import LiveRow
>>> live = LiveRow.of(4, 2, 3)
>>> [live.change(2, 5), live.spans]
[3, (1, 1, 3)]

>>> from spanrounds.live import LiveRow
>>> live = LiveRow.of(4, 2, 3)
>>> row = live.play()
>>> live.undo()
>>> [row, live.row]
[(1, 1, 2), (4, 2, 3)]

>>> from spanrounds.live import LiveRow
>>> live = LiveRow.of(4, 2)
>>> live.put(2, 3)
>>> [live.play(), live.take(0), live.log()]
[(1, 1, 2), 1, [('put', 2, 3), ('play', 1), ('take', 0)]]

>>> from spanrounds.live import LiveRow
>>> live = LiveRow.of(4, 2)
>>> [live.preview(("put", 2, 3), ("play", 1)), live.row, live.log()]
[(1, 1, 2), (4, 2), []]

>>> from spanrounds.live import LiveRow
>>> [LiveRow.of(2, 1) == LiveRow((2, 1)), LiveRow.of(2, 1) == (2, 1)]
[True, False]
"""

TEXTS = """
>>> from spanrounds.texts import read_row, show_row
>>> [show_row((3, -5, 3)), read_row('9 7 8')]
['3 -5 3', (9, 7, 8)]
"""

CONSOLE = """
>>> from spanrounds.console import Console
>>> console = Console()
>>> opened = console.say('row 9 7 8 5 6 4')
>>> [console.say(command) for command in ['spans', 'final', 'needed', 'brackets', 'number', 'orders', 'relation 1 3', 'meet 1 1 3 1 2 1', 'take 0']]
['1 1 2 1 2 1', '1 1 3 1 2 1', '2', '()(())(())()', '53', '8', 'open', '2', '9']
"""


class Examples(unittest.TestCase):
    def check(self, text, calls):
        test = doctest.DocTestParser().get_doctest(text, {}, "examples", None, 0)
        told = []
        results = doctest.DocTestRunner(verbose=False).run(test, out=told.append)
        self.assertEqual((results.failed, results.attempted), (0, calls), "".join(told))

    def test_section_4(self):
        self.check(ROWS, 10)

    def test_section_5(self):
        self.check(SETTLING, 10)

    def test_section_6(self):
        self.check(FORESTS, 11)

    def test_section_7(self):
        self.check(COUNTING, 6)

    def test_section_8(self):
        self.check(ORDERS, 7)

    def test_section_9(self):
        self.check(READING, 11)

    def test_section_10(self):
        self.check(WEIGHTS, 6)

    def test_section_11(self):
        self.check(LONG, 10)

    def test_section_12(self):
        self.check(LIVE, 34)

    def test_section_13(self):
        self.check(TEXTS, 2)

    def test_section_14(self):
        self.check(CONSOLE, 4)

    def test_readme(self):
        path = pathlib.Path(__file__).resolve().parent.parent / "README.md"
        examples = [part for part in path.read_text(encoding="utf-8").split("```") if ">>>" in part]
        self.assertEqual(len(examples), 1)
        self.check(examples[0], 38)

    def test_table_of_point_10(self):
        row = (9, 7, 8, 5, 6, 4)
        self.assertEqual(row_after(row, rounds=0), (9, 7, 8, 5, 6, 4))
        self.assertEqual(row_after(row, rounds=1), (1, 1, 2, 1, 2, 1))
        self.assertEqual(row_after(row, rounds=2), (1, 1, 3, 1, 2, 1))
        self.assertEqual(row_after(row, rounds=3), (1, 1, 3, 1, 2, 1))
        self.assertEqual(list(rows_of(row)), [row, (1, 1, 2, 1, 2, 1), (1, 1, 3, 1, 2, 1)])
        self.assertEqual(rounds_needed(row), 2)
        self.assertEqual(to_brackets((1, 1, 2, 1, 2, 1)), "()(())(())()")
        self.assertEqual(to_brackets((1, 1, 3, 1, 2, 1)), "(()())(())()")
        self.assertEqual(from_brackets("()(())(())()"), (1, 1, 2, 1, 2, 1))
        self.assertEqual(from_brackets("(()())(())()"), (1, 1, 3, 1, 2, 1))


if __name__ == "__main__":
    unittest.main()
