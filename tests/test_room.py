"""room: how many entries an index has, and how much room they take."""

import unittest

from helper import FAR, SHOWN, TABLE, load, room, run

TABLE_WORDS = "table (a, b, c, d); row 1, 5, 0, 9 times 10; row 2, 5, 0, 0 times 30; row 2, 7, 9, 9 times 5;"


class RoomTest(unittest.TestCase):
    def takes(self, words, wanted, table=TABLE_WORDS):
        self.assertEqual(run(load(f"{table} index i {words};"), room(0))[1], wanted, words)

    def test_keys(self):
        self.takes("on a", [45, 90])
        self.takes("on a, b", [45, 135])
        self.takes("on d, c, b, a", [45, 225])

    def test_included_columns(self):
        self.takes("on a with b", [45, 135])
        self.takes("on a with b, c, d", [45, 225])
        self.takes("on a, b with c", [45, 180])

    def test_a_condition(self):
        self.takes("on a only a = 2", [35, 70])
        self.takes("on b only a = 1", [10, 20])
        self.takes("on b with c only a from 0 to 1", [10, 30])
        self.takes("on b, c with a, d only d = 9", [15, 75])
        self.takes("on b only d = 0", [30, 60])
        self.takes("on b only b from 6 to 7", [5, 10])
        self.takes("on b only b from 5 to 6", [40, 80])
        self.takes("on b only c from 0 to 9", [45, 90])

    def test_no_entries(self):
        self.takes("on a only a = 3", [0, 0])
        self.takes("on a", [0, 0], "table (a, b, c, d);")
        self.takes("on a, b with c, d only a from 0 to 9", [0, 0], "table (a, b, c, d);")

    def test_12_groups_of_the_most_rows(self):
        rows = "".join([f"row {place // 10}, {place % 10}, 0, 9 times 1000000;" for place in range(12)])
        table = "table (a, b, c, d);" + rows
        self.takes("on a, b, c, d", [12000000, 60000000], table)
        self.takes("on a only a = 1", [2000000, 4000000], table)

    def test_which_index(self):
        text = TABLE_WORDS + "".join([f"index {name} on a only b = {at};" for at, name in enumerate("stuvwxyz")])
        given = run(load(text), *[room(number) for number in range(8)])
        self.assertEqual(given[1:], [[0, 0]] * 5 + [[40, 80], [0, 0], [5, 10]])

    def test_no_such_index(self):
        for words, many in (("", 0), ("index i on a;", 1), ("ask q; ask r; ask s; index i on a; index j on a;", 2)):
            for number in (-1, -2, many, many + 1, FAR, -FAR):
                self.assertEqual(run(load(TABLE_WORDS + words), room(number))[1], [-3], number)

    def test_no_text_comes_first(self):
        for number in (0, -1, FAR, -FAR):
            self.assertEqual(run(room(number)), [[-8]])

    def test_a_refusal_changes_nothing(self):
        text = TABLE_WORDS + "index i on a;"
        self.assertEqual(run(load(text), room(-1), SHOWN, TABLE)[2:], run(load(text), SHOWN, TABLE)[1:])


if __name__ == "__main__":
    unittest.main()
