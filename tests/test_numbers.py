"""table, ask and index: what a text tells, as numbers, and the refusals of wrong ones."""

import unittest

from helper import FAR, TABLE, ask, index, load, run

FOUR = "table (a, b, c, d);"


class TableTest(unittest.TestCase):
    def tables(self, text, wanted):
        self.assertEqual(run(load(text), TABLE)[1], wanted)

    def test_no_groups(self):
        self.tables("table (a);", [1, 0])
        self.tables("table (a, b, c, d);", [4, 0])

    def test_groups_in_their_order(self):
        self.tables("table (a); row 9 times 1; row 0 times 1000000;", [1, 2, 9, 1, 0, 1000000])
        self.tables(
            "table (d, c, b, a); row 1, 2, 3, 4 times 5; row 1, 2, 3, 0 times 6; row 0, 9, 0, 9 times 7;",
            [4, 3, 1, 2, 3, 4, 5, 1, 2, 3, 0, 6, 0, 9, 0, 9, 7],
        )

    def test_questions_and_indexes_do_not_count(self):
        self.tables("table (a); row 3 times 4; ask q; index i on a;", [1, 1, 3, 4])


class AskTest(unittest.TestCase):
    def asks(self, words, wanted):
        self.assertEqual(run(load(f"{FOUR} ask q {words};"), ask(0))[1], wanted, words)

    def test_what_stands_where_nothing_is_told(self):
        self.asks("", [0, 0, 0, 0, 0, 1])

    def test_filters(self):
        self.asks("where a = 2", [1, 0, 2, 2, 0, 0, 0, 0, 1])
        self.asks("where d from 0 to 9", [1, 3, 0, 9, 0, 0, 0, 0, 1])
        self.asks("where c from 4 to 4", [1, 2, 4, 4, 0, 0, 0, 0, 1])
        self.asks(
            "where d = 0 and a from 1 to 2 and c = 9 and b from 8 to 9",
            [4, 3, 0, 0, 0, 1, 2, 2, 9, 9, 1, 8, 9, 0, 0, 0, 0, 1],
        )

    def test_the_order(self):
        self.asks("by c", [0, 1, 2, 0, 0, 0, 1])
        self.asks("by d, a, b", [0, 3, 3, 0, 1, 0, 0, 0, 1])
        self.asks("by d, a back", [0, 2, 3, 0, 1, 0, 0, 1])

    def test_wanted_columns(self):
        self.asks("wants b", [0, 0, 0, 1, 1, 0, 1])
        self.asks("wants d, c, b, a", [0, 0, 0, 4, 3, 2, 1, 0, 0, 1])

    def test_limits(self):
        self.asks("first 1", [0, 0, 0, 0, 1, 1])
        self.asks("first 1000000", [0, 0, 0, 0, 1000000, 1])

    def test_how_often(self):
        self.asks("times 0", [0, 0, 0, 0, 0, 0])
        self.asks("times 1000", [0, 0, 0, 0, 0, 1000])

    def test_all_of_it(self):
        self.asks("where b = 3 by c, a back wants d first 20 times 5", [1, 1, 3, 3, 2, 2, 0, 1, 1, 3, 20, 5])

    def test_which_question(self):
        text = FOUR + " ".join([f"ask {name} first {place + 1};" for place, name in enumerate("uvwxyz")])
        given = run(load(text), *[ask(number) for number in range(6)])
        self.assertEqual(given[1:], [[0, 0, 0, 0, limit, 1] for limit in range(1, 7)])

    def test_no_such_question(self):
        for text, many in ((FOUR, 0), (FOUR + "ask q;", 1), (FOUR + "ask q; ask r; index i on a;", 2)):
            for number in (-1, -2, many, many + 1, FAR, -FAR):
                self.assertEqual(run(load(text), ask(number))[1], [-2], number)

    def test_no_text_comes_first(self):
        for number in (0, -1, FAR, -FAR):
            self.assertEqual(run(ask(number)), [[-8]])


class IndexTest(unittest.TestCase):
    def tells(self, words, wanted):
        self.assertEqual(run(load(f"{FOUR} index i {words};"), index(0))[1], wanted, words)

    def test_keys(self):
        self.tells("on a", [1, 0, 0, 0])
        self.tells("on d, a, c, b", [4, 3, 0, 2, 1, 0, 0])

    def test_included_columns(self):
        self.tells("on c with d, a", [1, 2, 2, 3, 0, 0])
        self.tells("on c, b with a", [2, 2, 1, 1, 0, 0])

    def test_a_condition(self):
        self.tells("on a only a = 0", [1, 0, 0, 1, 0, 0, 0])
        self.tells("on a only d from 0 to 9", [1, 0, 0, 1, 3, 0, 9])
        self.tells("on b with c only d from 5 to 5", [1, 1, 1, 2, 1, 3, 5, 5])

    def test_which_index(self):
        text = FOUR + " ".join([f"index {name} on a only b = {place};" for place, name in enumerate("abcdefgh")])
        given = run(load(text), *[index(number) for number in range(8)])
        self.assertEqual(given[1:], [[1, 0, 0, 1, 1, value, value] for value in range(8)])

    def test_no_such_index(self):
        for text, many in ((FOUR, 0), (FOUR + "index i on a;", 1), (FOUR + "ask q; index i on a; index j on a;", 2)):
            for number in (-1, -2, many, many + 1, FAR, -FAR):
                self.assertEqual(run(load(text), index(number))[1], [-3], number)

    def test_no_text_comes_first(self):
        for number in (0, -1, FAR, -FAR):
            self.assertEqual(run(index(number)), [[-8]])


if __name__ == "__main__":
    unittest.main()
