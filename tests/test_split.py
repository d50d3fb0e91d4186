"""split: how many rows have which value in a column."""

import unittest

from helper import FAR, SHOWN, TABLE, load, run, split

TEXT = "table (a, b); row 1, 5 times 10; row 2, 5 times 30; row 2, 7 times 5; row 9, 0 times 400;"


class SplitTest(unittest.TestCase):
    def splits(self, text, column, wanted):
        self.assertEqual(run(load(text), split(column))[1], wanted)

    def test_each_column(self):
        self.splits(TEXT, 0, [0, 10, 35, 0, 0, 0, 0, 0, 0, 400])
        self.splits(TEXT, 1, [400, 0, 0, 0, 0, 40, 0, 5, 0, 0])

    def test_each_value_has_its_place(self):
        rows = "".join([f"row {value} times {value + 1};" for value in (3, 0, 9, 1, 8, 2, 7, 4, 6, 5)])
        self.splits("table (a);" + rows, 0, [1, 2, 3, 4, 5, 6, 7, 8, 9, 10])

    def test_no_groups(self):
        for column in range(4):
            self.splits("table (a, b, c, d);", column, [0] * 10)

    def test_4_columns(self):
        text = "table (a, b, c, d); row 0, 1, 2, 3 times 7; row 3, 2, 1, 0 times 80;"
        self.splits(text, 0, [7, 0, 0, 80, 0, 0, 0, 0, 0, 0])
        self.splits(text, 1, [0, 7, 80, 0, 0, 0, 0, 0, 0, 0])
        self.splits(text, 2, [0, 80, 7, 0, 0, 0, 0, 0, 0, 0])
        self.splits(text, 3, [80, 0, 0, 7, 0, 0, 0, 0, 0, 0])

    def test_the_most_rows(self):
        rows = "".join([f"row {number % 10}, {number // 10} times 1000000;" for number in range(12)])
        self.splits("table (a, b);" + rows, 0, [2000000, 2000000] + [1000000] * 8)
        self.splits("table (a, b);" + rows, 1, [10000000, 2000000] + [0] * 8)
        same = "".join([f"row 9, {number // 10}, {number % 10} times 1000000;" for number in range(12)])
        self.splits("table (a, b, c);" + same, 0, [0] * 9 + [12000000])

    def test_no_such_column(self):
        for text, many in (("table (a);", 1), (TEXT, 2), ("table (a, b, c, d);", 4)):
            self.assertEqual(len(run(load(text), split(many - 1))[1]), 10)
            for column in (-1, -2, -many, many, many + 1, FAR, -FAR):
                self.splits(text, column, [-5])

    def test_no_text_comes_first(self):
        for column in (0, -1, FAR, -FAR):
            self.assertEqual(run(split(column)), [[-8]])

    def test_a_refusal_changes_nothing(self):
        self.assertEqual(run(load(TEXT), split(2), SHOWN, TABLE)[2:], run(load(TEXT), SHOWN, TABLE)[1:])


if __name__ == "__main__":
    unittest.main()
