"""answer: parts, their order, and how far a limit goes."""

import unittest

from helper import FAR, SHOWN, TABLE, answer, load, run

TABLE_WORDS = (
    "table (a, b, c); row 2, 7, 0 times 5; row 1, 5, 9 times 10; row 2, 5, 1 times 30; "
    "row 0, 7, 2 times 200; row 2, 5, 0 times 1000;"
)


class AnswerCase(unittest.TestCase):
    def answered(self, words, wanted, table=TABLE_WORDS):
        self.assertEqual(run(load(f"{table} ask q {words};"), answer(0))[1], wanted, words)


class PartsTest(AnswerCase):
    def test_no_order_is_one_part_without_values(self):
        self.answered("", [1245, 1, 1245])
        self.answered("where a = 2", [1035, 1, 1035])
        self.answered("where a = 2 and b = 7", [5, 1, 5])

    def test_parts_stand_in_the_order_not_as_they_lie(self):
        self.answered("by a", [1245, 3, 200, 0, 10, 1, 1035, 2])
        self.answered("by c", [1245, 4, 1005, 0, 30, 1, 200, 2, 10, 9])

    def test_groups_that_fall_into_one_part(self):
        self.answered("by b", [1245, 2, 1040, 5, 205, 7])
        self.answered("where a = 2 by a", [1035, 1, 1035, 2])

    def test_an_order_of_several_columns(self):
        self.answered("by a, b", [1245, 4, 200, 0, 7, 10, 1, 5, 1030, 2, 5, 5, 2, 7])
        self.answered("by b, a", [1245, 4, 10, 5, 1, 1030, 5, 2, 200, 7, 0, 5, 7, 2])
        self.answered("by b, c, a", [1245, 5, 1000, 5, 0, 2, 30, 5, 1, 2, 10, 5, 9, 1, 5, 7, 0, 2, 200, 7, 2, 0])

    def test_backwards(self):
        self.answered("by a back", [1245, 3, 1035, 2, 10, 1, 200, 0])
        self.answered("by b, a back", [1245, 4, 5, 7, 2, 200, 7, 0, 1030, 5, 2, 10, 5, 1])
        self.answered("where b = 5 by c back", [1040, 3, 10, 9, 30, 1, 1000, 0])

    def test_filters(self):
        self.answered("where c from 0 to 1 by c", [1035, 2, 1005, 0, 30, 1])
        self.answered("where c from 1 to 2 by a", [230, 2, 200, 0, 30, 2])
        self.answered("where a from 0 to 9 and b from 0 to 9 by b", [1245, 2, 1040, 5, 205, 7])
        self.answered("where a = 2 and c = 0 by b", [1005, 2, 1000, 5, 5, 7])
        self.answered("where c = 9 by c", [10, 1, 10, 9])
        self.answered("where a = 0 by a", [200, 1, 200, 0])

    def test_no_row_found(self):
        for words in ("", "by b", "by a back first 5"):
            self.answered(f"where a = 3 {words}", [0, 0])
            self.answered(f"where a = 1 and b = 7 {words}", [0, 0])
            self.answered(f"where c from 3 to 8 {words}", [0, 0])

    def test_no_groups(self):
        for words in ("", "by a", "by a back", "first 1", "where a from 0 to 9 by a, b, c first 1000000"):
            self.answered(words, [0, 0], "table (a, b, c);")

    def test_wanted_columns_and_how_often_do_not_count(self):
        self.answered("by a wants b, c times 0", [1245, 3, 200, 0, 10, 1, 1035, 2])
        self.answered("wants a times 1000", [1245, 1, 1245])

    def test_values_0_and_9(self):
        table = "table (a, b); row 9, 0 times 1; row 0, 9 times 2; row 9, 9 times 3; row 0, 0 times 4;"
        self.answered("by a, b", [10, 4, 4, 0, 0, 2, 0, 9, 1, 9, 0, 3, 9, 9], table)
        self.answered("by a, b back", [10, 4, 3, 9, 9, 1, 9, 0, 2, 0, 9, 4, 0, 0], table)


class LimitTest(AnswerCase):
    def test_no_order(self):
        self.answered("first 1", [1, 1, 1])
        self.answered("first 1244", [1244, 1, 1244])
        self.answered("first 1245", [1245, 1, 1245])
        self.answered("first 1246", [1245, 1, 1245])
        self.answered("where a = 2 first 1000000", [1035, 1, 1035])

    def test_within_a_part(self):
        self.answered("by a first 1", [1, 1, 1, 0])
        self.answered("by a first 199", [199, 1, 199, 0])
        self.answered("by a first 201", [201, 2, 200, 0, 1, 1])
        self.answered("by a first 209", [209, 2, 200, 0, 9, 1])
        self.answered("by a first 211", [211, 3, 200, 0, 10, 1, 1, 2])

    def test_just_at_the_end_of_a_part(self):
        self.answered("by a first 200", [200, 1, 200, 0])
        self.answered("by a first 210", [210, 2, 200, 0, 10, 1])
        self.answered("by a first 1245", [1245, 3, 200, 0, 10, 1, 1035, 2])

    def test_above_all_rows_found(self):
        self.answered("by a first 1246", [1245, 3, 200, 0, 10, 1, 1035, 2])
        self.answered("by a first 1000000", [1245, 3, 200, 0, 10, 1, 1035, 2])
        self.answered("where b = 7 by a first 206", [205, 2, 200, 0, 5, 2])

    def test_backwards(self):
        self.answered("by a back first 1035", [1035, 1, 1035, 2])
        self.answered("by a back first 1036", [1036, 2, 1035, 2, 1, 1])
        self.answered("by c, a back first 15", [15, 2, 10, 9, 1, 5, 2, 0])

    def test_rows_of_several_groups_in_the_last_part(self):
        self.answered("by b first 1039", [1039, 1, 1039, 5])
        self.answered("by b first 1041", [1041, 2, 1040, 5, 1, 7])


class MostTest(AnswerCase):
    def test_12_parts_of_4_columns(self):
        places = list(range(12))
        rows = "".join([f"row {place // 10}, {place % 10}, 0, 9 times 1000000;" for place in reversed(places)])
        table = "table (a, b, c, d);" + rows
        wanted = [12000000, 12]
        for place in places:
            wanted += [1000000, place // 10, place % 10, 0, 9]
        self.answered("by a, b, c, d", wanted, table)
        self.answered("", [12000000, 1, 12000000], table)
        self.answered("by c", [12000000, 1, 12000000, 0], table)
        self.answered("by a, b first 1000000", [1000000, 1, 1000000, 0, 0], table)
        self.answered("by d first 1000000", [1000000, 1, 1000000, 9], table)

    def test_which_question(self):
        text = TABLE_WORDS + "".join([f"ask {name} first {place + 1};" for place, name in enumerate("uvwxyz")])
        given = run(load(text), *[answer(number) for number in range(6)])
        self.assertEqual(given[1:], [[limit, 1, limit] for limit in range(1, 7)])


class RefusalTest(unittest.TestCase):
    def test_no_such_question(self):
        for words, many in (("", 0), ("ask q;", 1), ("ask q; ask r; index i on a;", 2)):
            for number in (-1, -2, many, many + 1, FAR, -FAR):
                self.assertEqual(run(load(TABLE_WORDS + words), answer(number))[1], [-2], number)

    def test_no_text_comes_first(self):
        for number in (0, -1, FAR, -FAR):
            self.assertEqual(run(answer(number)), [[-8]])

    def test_a_refusal_changes_nothing(self):
        text = TABLE_WORDS + "ask q;"
        self.assertEqual(run(load(text), answer(1), SHOWN, TABLE)[2:], run(load(text), SHOWN, TABLE)[1:])


if __name__ == "__main__":
    unittest.main()
