"""implies: what filters say of one more, by themselves and in the table, and when these are refused."""

import unittest

from helper import FAR, SHOWN, TABLE, implies, load, run

TEXT = "table (a, b); row 1, 5 times 10; row 2, 5 times 30; row 2, 7 times 5;"
FOUR = "table (a, b, c, d); row 0, 1, 2, 3 times 7; row 3, 2, 1, 0 times 80; row 0, 1, 2, 4 times 900;"
NO_GROUPS = "table (a, b);"

NO_FILTERS = (
    [],
    [0],
    [0, 1],
    [0, 1, 1, 0],
    [0, 1, 1, 1, 5],
    [1, 0, 1, 1],
    [-1, 1, 1],
    [2, 1, 1],
    [FAR, 1, 1],
    [-FAR, 1, 1],
    [0, 2, 1],
    [0, 9, 0],
    [0, 1, 10],
    [0, 10, 10],
    [0, -1, 1],
    [0, -1, -1],
    [0, 0, FAR],
    [0, -FAR, 9],
    [0, FAR, FAR],
    [0, FAR, -FAR],
)

NO_LISTS = (
    [],
    [1],
    [1, 0],
    [1, 0, 1],
    [2, 0, 1, 1],
    [2, 0, 1, 1, 1, 5],
    [0, 0],
    [0, 0, 1, 1],
    [1, 0, 1, 1, 0],
    [1, 0, 1, 1, 1, 5, 5],
    [2, 0, 1, 1, 1, 5, 5, 0],
    [0] * 20,
    [2, 0, 1, 1, 0, 1, 1],
    [2, 1, 0, 9, 1, 5, 5],
    [3, 0, 1, 1, 1, 5, 5, 0, 1, 1],
    [3, 0, 1, 1, 1, 5, 5, 2, 1, 1],
    [-1],
    [FAR],
    [-FAR],
    [FAR, 0, 1, 1],
    [1, 2, 1, 1],
    [1, -1, 1, 1],
    [1, FAR, 1, 1],
    [1, -FAR, 1, 1],
    [2, 0, 1, 1, 2, 1, 1],
    [1, 0, 2, 1],
    [1, 0, 9, 0],
    [1, 0, 1, 10],
    [1, 0, 10, 10],
    [1, 0, -1, 1],
    [1, 0, 0, FAR],
    [1, 0, -FAR, 9],
    [2, 0, 1, 1, 1, 5, 4],
)


class ImpliesCase(unittest.TestCase):
    def implied(self, text, filters, one_more, wanted):
        self.assertEqual(run(load(text), implies(filters, one_more))[1], wanted, (filters, one_more))


class SayTest(ImpliesCase):
    def test_a_filter_as_wide_narrower_and_wider(self):
        self.implied(TEXT, [1, 0, 1, 2], [0, 1, 2], [1, 1])
        self.implied(TEXT, [1, 0, 2, 2], [0, 1, 2], [1, 1])
        self.implied(TEXT, [1, 0, 1, 1], [0, 1, 2], [1, 1])
        self.implied(TEXT, [1, 0, 1, 3], [0, 1, 2], [0, 1])
        self.implied(TEXT, [1, 0, 0, 2], [0, 1, 2], [0, 1])
        self.implied(TEXT, [1, 0, 0, 9], [0, 1, 2], [0, 1])
        self.implied(TEXT, [1, 0, 1, 2], [0, 2, 2], [0, 0])
        self.implied(TEXT, [1, 0, 1, 2], [0, 1, 1], [0, 0])
        self.implied(TEXT, [1, 0, 0, 0], [0, 0, 0], [1, 1])
        self.implied(TEXT, [1, 0, 9, 9], [0, 9, 9], [1, 1])

    def test_another_column(self):
        self.implied(TEXT, [1, 0, 5, 5], [1, 5, 5], [0, 1])
        self.implied(TEXT, [1, 0, 1, 1], [1, 5, 5], [0, 1])
        self.implied(TEXT, [1, 0, 2, 2], [1, 5, 5], [0, 0])
        self.implied(TEXT, [1, 1, 7, 7], [0, 2, 2], [0, 1])

    def test_several_filters(self):
        self.implied(TEXT, [2, 1, 5, 5, 0, 2, 2], [0, 2, 3], [1, 1])
        self.implied(TEXT, [2, 0, 2, 2, 1, 5, 5], [0, 2, 3], [1, 1])
        self.implied(TEXT, [2, 0, 2, 2, 1, 5, 7], [1, 5, 5], [0, 0])
        self.implied(TEXT, [2, 0, 1, 1, 1, 5, 7], [1, 5, 5], [0, 1])
        self.implied(FOUR, [4, 3, 3, 4, 2, 2, 2, 1, 1, 1, 0, 0, 0], [3, 3, 5], [1, 1])
        self.implied(FOUR, [4, 3, 3, 4, 2, 2, 2, 1, 1, 1, 0, 0, 0], [3, 3, 3], [0, 0])
        self.implied(FOUR, [3, 2, 2, 2, 1, 1, 1, 0, 0, 0], [3, 3, 4], [0, 1])

    def test_no_filters(self):
        self.implied(TEXT, [0], [0, 1, 2], [0, 1])
        self.implied(TEXT, [0], [0, 1, 1], [0, 0])
        self.implied(TEXT, [0], [1, 5, 7], [0, 1])
        self.implied(TEXT, [0], [1, 6, 7], [0, 0])

    def test_from_0_to_9_is_said_by_any(self):
        for filters in ([0], [1, 0, 3, 3], [1, 1, 5, 5], [1, 0, 0, 9], [2, 1, 0, 0, 0, 9, 9]):
            for column in (0, 1):
                self.implied(TEXT, filters, [column, 0, 9], [1, 1])
                self.implied(NO_GROUPS, filters, [column, 0, 9], [1, 1])

    def test_from_0_to_8_and_1_to_9_are_not(self):
        for text in (TEXT, NO_GROUPS):
            self.implied(text, [0], [0, 0, 8], [0, 1])
            self.implied(text, [0], [0, 1, 9], [0, 1])
        self.implied("table (a); row 9 times 1;", [0], [0, 0, 8], [0, 0])
        self.implied("table (a); row 0 times 1;", [0], [0, 1, 9], [0, 0])

    def test_no_row_passes(self):
        self.implied(TEXT, [1, 0, 3, 9], [1, 0, 0], [0, 1])
        self.implied(TEXT, [1, 0, 3, 9], [0, 1, 1], [0, 1])
        self.implied(TEXT, [2, 0, 1, 1, 1, 7, 7], [0, 9, 9], [0, 1])

    def test_no_groups(self):
        self.implied(NO_GROUPS, [0], [0, 4, 4], [0, 1])
        self.implied(NO_GROUPS, [1, 0, 1, 1], [0, 2, 2], [0, 1])
        self.implied(NO_GROUPS, [1, 0, 2, 2], [0, 2, 2], [1, 1])

    def test_12_groups_of_4_columns(self):
        rows = "".join([f"row {place // 10}, {place % 10}, 0, 9 times 1000000;" for place in range(12)])
        table = "table (a, b, c, d);" + rows
        self.implied(table, [1, 1, 2, 9], [0, 0, 0], [0, 1])
        self.implied(table, [1, 1, 1, 9], [0, 0, 0], [0, 0])
        self.implied(table, [0], [3, 9, 9], [0, 1])


class RefusalTest(ImpliesCase):
    def test_a_first_list_that_is_none(self):
        for filters in NO_LISTS:
            self.implied(TEXT, filters, [0, 1, 1], [-4])
            self.implied(TEXT, filters, [0, 0, 9], [-4])
            self.implied(NO_GROUPS, filters, [0, 1, 1], [-4])
        self.implied(FOUR, [5, 0, 0, 9, 1, 0, 9, 2, 0, 9, 3, 0, 9, 4, 0, 9], [0, 1, 1], [-4])
        self.implied(FOUR, [4, 0, 0, 9, 1, 0, 9, 2, 0, 9, 0, 0, 9], [0, 1, 1], [-4])

    def test_a_second_list_that_is_none(self):
        for one_more in NO_FILTERS:
            self.implied(TEXT, [0], one_more, [-4])
            self.implied(TEXT, [2, 0, 1, 1, 1, 5, 5], one_more, [-4])
            self.implied(NO_GROUPS, [1, 0, 1, 1], one_more, [-4])
        self.implied(FOUR, [0], [3, 0, 0], [0, 0])
        self.implied(FOUR, [0], [4, 0, 0], [-4])

    def test_both(self):
        for filters in NO_LISTS:
            self.implied(TEXT, filters, [], [-4])
            self.implied(TEXT, filters, [FAR] * 5, [-4])

    def test_no_text_comes_first(self):
        for filters in ([0], [], [FAR] * 20, [1, 0, 1, 1]):
            for one_more in ([0, 1, 1], [], [-FAR] * 5):
                self.assertEqual(run(implies(filters, one_more)), [[-8]])

    def test_a_refused_call_is_read_whole(self):
        calls = [implies(filters, one_more) for filters in NO_LISTS[:3] for one_more in NO_FILTERS[:5]]
        self.assertEqual(run(load(TEXT), *calls, TABLE)[1:], [[-4]] * 15 + run(load(TEXT), TABLE)[1:])
        self.assertEqual(run(*calls, TABLE), [[-8]] * 16)

    def test_a_refusal_changes_nothing(self):
        given = run(load(TEXT), implies([], [0, 1, 1]), implies([0], []), SHOWN, TABLE)
        self.assertEqual(given[3:], run(load(TEXT), SHOWN, TABLE)[1:])


if __name__ == "__main__":
    unittest.main()
