"""count: how many rows pass filters that are handed over as numbers, and when these are refused."""

import unittest

from helper import FAR, SHOWN, TABLE, count, load, run

TEXT = "table (a, b); row 1, 5 times 10; row 2, 5 times 30; row 2, 7 times 5; row 9, 0 times 400;"
FOUR = "table (a, b, c, d); row 0, 1, 2, 3 times 7; row 3, 2, 1, 0 times 80; row 0, 1, 2, 4 times 900;"


class CountTest(unittest.TestCase):
    def counts(self, text, filters, wanted):
        self.assertEqual(run(load(text), count(filters))[1], wanted, filters)

    def refused(self, text, filters):
        self.counts(text, filters, [-4])

    def test_no_filter(self):
        self.counts(TEXT, [0], [445, 445])
        self.counts("table (a);", [0], [0, 0])

    def test_one_filter(self):
        self.counts(TEXT, [1, 0, 2, 2], [35, 445])
        self.counts(TEXT, [1, 0, 1, 2], [45, 445])
        self.counts(TEXT, [1, 0, 2, 9], [435, 445])
        self.counts(TEXT, [1, 0, 3, 8], [0, 445])
        self.counts(TEXT, [1, 1, 5, 6], [40, 445])
        self.counts(TEXT, [1, 1, 6, 7], [5, 445])
        self.counts(TEXT, [1, 1, 0, 0], [400, 445])
        self.counts(TEXT, [1, 0, 9, 9], [400, 445])
        self.counts(TEXT, [1, 0, 0, 9], [445, 445])

    def test_several_filters(self):
        self.counts(TEXT, [2, 0, 2, 2, 1, 5, 5], [30, 445])
        self.counts(TEXT, [2, 1, 5, 5, 0, 2, 2], [30, 445])
        self.counts(TEXT, [2, 0, 1, 1, 1, 7, 7], [0, 445])
        self.counts(FOUR, [4, 3, 3, 4, 2, 2, 2, 1, 1, 1, 0, 0, 0], [907, 987])
        self.counts(FOUR, [4, 3, 4, 9, 2, 2, 2, 1, 1, 1, 0, 0, 0], [900, 987])
        self.counts(FOUR, [3, 3, 0, 3, 2, 1, 2, 1, 1, 2], [87, 987])

    def test_the_most_rows(self):
        rows = "".join([f"row {number // 10}, {number % 10} times 1000000;" for number in range(12)])
        self.counts("table (a, b);" + rows, [0], [12000000, 12000000])
        self.counts("table (a, b);" + rows, [1, 0, 1, 1], [2000000, 12000000])

    def test_too_short(self):
        self.refused(TEXT, [])
        self.refused(TEXT, [1])
        self.refused(TEXT, [1, 0])
        self.refused(TEXT, [1, 0, 1])
        self.refused(TEXT, [2, 0, 1, 1])
        self.refused(TEXT, [2, 0, 1, 1, 1])
        self.refused(TEXT, [2, 0, 1, 1, 1, 5])

    def test_too_long(self):
        self.refused(TEXT, [0, 0])
        self.refused(TEXT, [0, 0, 1, 1])
        self.refused(TEXT, [1, 0, 1, 1, 0])
        self.refused(TEXT, [1, 0, 1, 1, 1, 5, 5])
        self.refused(TEXT, [2, 0, 1, 1, 1, 5, 5, 0])
        self.refused(TEXT, [0] * 20)

    def test_how_many(self):
        self.refused(TEXT, [3, 0, 1, 1, 1, 5, 5, 2, 0, 0])
        self.refused(TEXT, [3, 0, 1, 1, 1, 5, 5, 0, 0, 0])
        self.refused(FOUR, [5, 0, 0, 9, 1, 0, 9, 2, 0, 9, 3, 0, 9, 4, 0, 9])
        self.refused(FOUR, [6] + [0] * 18)
        for many in (-1, -FAR, FAR, FAR - 1):
            self.refused(TEXT, [many])
            self.refused(TEXT, [many, 0, 1, 1])

    def test_the_same_column_twice(self):
        self.refused(TEXT, [2, 0, 1, 1, 0, 1, 1])
        self.refused(TEXT, [2, 1, 5, 5, 1, 7, 7])
        self.refused(FOUR, [3, 2, 0, 9, 0, 0, 9, 2, 0, 9])

    def test_no_such_column(self):
        for column in (-1, -2, 2, 3, FAR, -FAR):
            self.refused(TEXT, [1, column, 1, 1])
            self.refused(TEXT, [2, 0, 1, 1, column, 1, 1])
            self.refused(TEXT, [2, column, 1, 1, 0, 1, 1])
        self.counts(FOUR, [1, 3, 0, 0], [80, 987])
        self.refused(FOUR, [1, 4, 0, 0])

    def test_values_that_are_none(self):
        for pair in ([-1, 5], [5, 10], [-1, -1], [10, 10], [5, 4], [9, 0], [0, FAR], [-FAR, 9], [FAR, FAR], [FAR, -FAR]):
            self.refused(TEXT, [1, 0] + pair)
            self.refused(TEXT, [2, 0, 1, 1, 1] + pair)

    def test_no_text_comes_first(self):
        for filters in ([], [0], [1], [FAR], [1, 0, 1, 1]):
            self.assertEqual(run(count(filters)), [[-8]])

    def test_a_refusal_changes_nothing(self):
        wanted = run(load(TEXT), SHOWN, TABLE)[1:]
        self.assertEqual(run(load(TEXT), count([]), count([1, 0, 5, 4]), SHOWN, TABLE)[3:], wanted)


if __name__ == "__main__":
    unittest.main()
