"""alone: how many rows a question finds, and how many each of its filters leaves."""

import unittest

from helper import FAR, SHOWN, TABLE, alone, load, run

TABLE_WORDS = (
    "table (a, b, c); row 2, 7, 0 times 5; row 1, 5, 9 times 10; row 2, 5, 1 times 30; "
    "row 0, 7, 2 times 200; row 2, 5, 0 times 1000;"
)


class AloneTest(unittest.TestCase):
    def leaves(self, words, wanted, table=TABLE_WORDS):
        self.assertEqual(run(load(f"{table} ask q {words};"), alone(0))[1], wanted, words)

    def test_no_filter(self):
        self.leaves("", [1245, 0])
        self.leaves("by a back wants b", [1245, 0])

    def test_one_filter(self):
        self.leaves("where a = 2", [1035, 1, 1035])
        self.leaves("where c from 1 to 2", [230, 1, 230])
        self.leaves("where c = 9", [10, 1, 10])
        self.leaves("where a = 0", [200, 1, 200])
        self.leaves("where b from 0 to 9", [1245, 1, 1245])

    def test_several_filters_as_they_stand(self):
        self.leaves("where a = 2 and b = 7", [5, 2, 1035, 205])
        self.leaves("where b = 7 and a = 2", [5, 2, 205, 1035])
        self.leaves("where c from 0 to 1 and b = 5 and a from 1 to 2", [1030, 3, 1035, 1040, 1045])

    def test_no_row_found(self):
        self.leaves("where a = 3", [0, 1, 0])
        self.leaves("where a = 1 and b = 7", [0, 2, 10, 205])
        self.leaves("where a = 3 and b = 7", [0, 2, 0, 205])

    def test_no_groups(self):
        self.leaves("", [0, 0], "table (a, b, c);")
        self.leaves("where a from 0 to 9 and c = 0", [0, 2, 0, 0], "table (a, b, c);")

    def test_order_and_limit_do_not_count(self):
        self.leaves("where a = 2 by b back wants c first 1 times 0", [1035, 1, 1035])

    def test_4_filters_of_12_groups(self):
        rows = "".join([f"row {place // 10}, {place % 10}, 0, 9 times 1000000;" for place in range(12)])
        table = "table (a, b, c, d);" + rows
        self.leaves(
            "where d = 9 and c = 0 and b from 0 to 1 and a = 1",
            [2000000, 4, 12000000, 12000000, 4000000, 2000000],
            table,
        )

    def test_which_question(self):
        text = TABLE_WORDS + "".join([f"ask {name} where c = {place};" for place, name in enumerate("uvwxyz")])
        given = run(load(text), *[alone(number) for number in range(6)])
        self.assertEqual(given[1:], [[rows, 1, rows] for rows in (1005, 30, 200, 0, 0, 0)])

    def test_no_such_question(self):
        for words, many in (("", 0), ("ask q;", 1), ("ask q; ask r; index i on a;", 2)):
            for number in (-1, -2, many, many + 1, FAR, -FAR):
                self.assertEqual(run(load(TABLE_WORDS + words), alone(number))[1], [-2], number)

    def test_no_text_comes_first(self):
        for number in (0, -1, FAR, -FAR):
            self.assertEqual(run(alone(number)), [[-8]])

    def test_a_refusal_changes_nothing(self):
        text = TABLE_WORDS + "ask q;"
        self.assertEqual(run(load(text), alone(-1), SHOWN, TABLE)[2:], run(load(text), SHOWN, TABLE)[1:])


if __name__ == "__main__":
    unittest.main()
