"""serves: which indexes can serve a question, which of them cover it, and by which its order is free."""

import unittest

from helper import FAR, SHOWN, TABLE, load, run, serves

ROWS = "row 1, 5, 0, 0 times 10; row 2, 5, 0, 9 times 30;"


class ServesCase(unittest.TestCase):
    def given(self, question, indexes, rows=ROWS):
        text = f"table (a, b, c, d); {rows} ask q {question};"
        names = "stuvwxyz"
        text += "".join([f"index {names[place]} {words};" for place, words in enumerate(indexes)])
        loaded, answered = run(load(text), serves(0))
        self.assertEqual(loaded[0], 0, text)
        return answered

    def serving(self, question, index, wanted):
        for rows in (ROWS, ""):
            self.assertEqual(self.given(question, [index], rows)[0], wanted, (question, index))

    def covering(self, question, index, wanted):
        self.assertEqual(self.given(question, [index])[:3], [1, 0, wanted], (question, index))

    def free(self, question, index, wanted):
        answered = self.given(question, [index])
        self.assertEqual(answered[:2] + answered[3:], [1, 0, wanted], (question, index))


class ConditionTest(ServesCase):
    def test_no_condition(self):
        for question in ("", "where a = 1", "by d back wants c first 3 times 0"):
            self.serving(question, "on b", 1)
            self.serving(question, "on a, b with c, d", 1)

    def test_no_filter_of_its_column(self):
        self.serving("", "on a only a = 1", 0)
        self.serving("where b = 1", "on a only a = 1", 0)
        self.serving("by a wants a", "on a only a = 1", 0)
        self.serving("where b = 1 and c = 1 and d = 1", "on a only a from 1 to 1", 0)

    def test_no_filter_of_its_column_though_all_values_pass(self):
        self.serving("", "on a only a from 0 to 9", 0)
        self.serving("where b from 0 to 9", "on a only a from 0 to 9", 0)
        self.serving("where a from 0 to 9", "on a only a from 0 to 9", 1)
        self.serving("where a = 4", "on a only a from 0 to 9", 1)

    def test_just_as_wide(self):
        self.serving("where a = 1", "on a only a = 1", 1)
        self.serving("where a from 1 to 3", "on a only a from 1 to 3", 1)
        self.serving("where a = 0", "on a only a = 0", 1)
        self.serving("where a = 9", "on a only a = 9", 1)

    def test_narrower(self):
        for words in ("= 1", "= 2", "= 3", "from 1 to 2", "from 2 to 3"):
            self.serving(f"where a {words}", "on a only a from 1 to 3", 1)

    def test_wider_or_beside(self):
        for words in ("= 0", "= 4", "from 0 to 3", "from 1 to 4", "from 0 to 9", "from 3 to 4", "from 5 to 9"):
            self.serving(f"where a {words}", "on a only a from 1 to 3", 0)

    def test_whatever_rows_the_table_has(self):
        rows = "row 1, 5, 0, 0 times 10;"
        self.assertEqual(self.given("where a from 0 to 4", ["on a only a = 1"], rows), [0])
        self.assertEqual(self.given("where b = 5", ["on a only a = 1"], rows), [0])
        self.assertEqual(self.given("where a = 7", ["on a only a = 7"], rows), [1, 0, 1, 1])

    def test_among_several_filters(self):
        self.serving("where b = 1 and a = 1", "on a only a = 1", 1)
        self.serving("where a = 2 and b = 1", "on a only a = 1", 0)
        self.serving("where d = 1 and c = 2 and a = 3 and b = 4", "on a only c from 2 to 3", 1)


class CoversTest(ServesCase):
    def test_needing_nothing(self):
        self.covering("", "on a", 1)
        self.covering("first 3 times 0", "on d with c", 1)

    def test_filters(self):
        self.covering("where a = 1", "on a", 1)
        self.covering("where a = 1", "on b with a", 1)
        self.covering("where a = 1", "on b with c, d", 0)
        self.covering("where a = 1 and b from 0 to 9", "on a", 0)

    def test_the_order(self):
        self.covering("by b", "on b", 1)
        self.covering("by b back", "on a with b", 1)
        self.covering("by b, c", "on b", 0)

    def test_wanted_columns(self):
        self.covering("wants c", "on c", 1)
        self.covering("wants c, d", "on a with d, c", 1)
        self.covering("wants c, d", "on a, b with d", 0)

    def test_all_three(self):
        question = "where a = 1 by b wants c"
        self.covering(question, "on a, b, c", 1)
        self.covering(question, "on c with b, a", 1)
        self.covering(question, "on a, b with d", 0)
        self.covering(question, "on a, c", 0)
        self.covering(question, "on b, c with d", 0)
        self.covering("where a = 1 by a wants a", "on a", 1)

    def test_a_condition_gives_no_column(self):
        self.covering("where a = 1 by b", "on b only a = 1", 0)
        self.covering("where a = 1 by b", "on b with a only a = 1", 1)


class FreeTest(ServesCase):
    def test_no_order(self):
        self.free("", "on a", 1)
        self.free("where a from 1 to 2 wants c", "on d", 1)

    def test_the_beginning_of_the_keys(self):
        self.free("by a", "on a", 1)
        self.free("by a", "on a, b", 1)
        self.free("by a, b", "on a, b, c", 1)
        self.free("by a, b", "on a, b", 1)
        self.free("by a, b", "on a", 0)
        self.free("by b", "on a, b", 0)
        self.free("by a, b", "on b, a", 0)
        self.free("by a, c", "on a, b, c", 0)
        self.free("by d, c, b, a", "on d, c, b, a", 1)
        self.free("by d, c, b, a", "on d, c, b", 0)

    def test_included_columns_are_no_keys(self):
        self.free("by b", "on a with b", 0)
        self.free("by a, b", "on a with b", 0)

    def test_backwards(self):
        self.free("by a, b back", "on a, b", 1)
        self.free("by a, b back", "on b, a", 0)

    def test_equal_filters_among_the_keys(self):
        self.free("where a = 1 by b", "on a, b", 1)
        self.free("where b = 1 by a, c", "on a, b, c", 1)
        self.free("where a = 1 and b = 2 by c", "on a, b, c", 1)
        self.free("where a = 1 and c = 2 by d", "on a, b, c, d", 0)
        self.free("where a from 4 to 4 by b", "on a, b", 1)

    def test_equal_filters_in_the_order(self):
        self.free("where a = 1 by a, b", "on b", 1)
        self.free("where a = 1 by b, a", "on b", 1)
        self.free("where b = 1 by a, b, c", "on a, c", 1)
        self.free("where b = 1 by a, b, c", "on b, a, c", 1)
        self.free("where b = 1 by a, b, c", "on c, b, a", 0)

    def test_filters_that_are_not_equal(self):
        self.free("where a from 1 to 2 by b", "on a, b", 0)
        self.free("where a from 1 to 2 by a, b", "on b", 0)
        self.free("where a from 0 to 1 by a, b", "on a, b", 1)

    def test_nothing_is_left_of_the_order(self):
        self.free("where a = 1 by a", "on b", 1)
        self.free("where a = 1 by a", "on a", 1)
        self.free("where a = 0 and b = 9 by b, a back", "on c, d", 1)

    def test_no_key_is_left(self):
        self.free("where a = 1 by b", "on a", 0)
        self.free("where a = 1 and b = 1 by a, b, c", "on a, b", 0)

    def test_an_equal_condition(self):
        self.free("where a = 1 by a, b", "on b only a = 1", 1)
        self.free("where a = 1 by b", "on a, b only a from 1 to 2", 1)


class WhichTest(ServesCase):
    def test_no_index(self):
        self.assertEqual(self.given("", []), [0])

    def test_each_with_its_number(self):
        indexes = ["on a only b = 1", "on b", "on a only a from 0 to 5", "on b, a only a = 3", "on a, b"]
        self.assertEqual(self.given("where a = 2 by b", indexes), [3, 1, 0, 1, 2, 0, 0, 4, 1, 1])
        self.assertEqual(self.given("where a = 3 by b", indexes), [4, 1, 0, 1, 2, 0, 0, 3, 1, 1, 4, 1, 1])
        self.assertEqual(self.given("", indexes), [2, 1, 1, 1, 4, 1, 1])

    def test_none_serves(self):
        self.assertEqual(self.given("where a = 2", ["on a only a = 1", "on a only b = 2"]), [0])

    def test_8_indexes_and_6_questions(self):
        text = "table (a, b, c, d);" + "".join([f"ask {name} where a = {at};" for at, name in enumerate("stuvwx")])
        text += "".join([f"index {name} on a only a from {at} to 7;" for at, name in enumerate("stuvwxyz")])
        wanted = []
        for value in range(6):
            told = [value + 1]
            for number in range(value + 1):
                told += [number, 1, 1]
            wanted.append(told)
        self.assertEqual(run(load(text), *[serves(number) for number in range(6)])[1:], wanted)
        self.assertEqual(self.given("", ["on a"] * 8), [8] + [n for number in range(8) for n in (number, 1, 1)])


class RefusalTest(unittest.TestCase):
    def test_no_such_question(self):
        for words, many in (("", 0), ("ask q;", 1), ("ask q; ask r; index i on a;", 2)):
            for number in (-1, -2, many, many + 1, FAR, -FAR):
                self.assertEqual(run(load("table (a);" + words), serves(number))[1], [-2], number)

    def test_no_text_comes_first(self):
        for number in (0, -1, FAR, -FAR):
            self.assertEqual(run(serves(number)), [[-8]])

    def test_a_refusal_changes_nothing(self):
        text = "table (a); ask q; index i on a;"
        self.assertEqual(run(load(text), serves(1), SHOWN, TABLE)[2:], run(load(text), SHOWN, TABLE)[1:])


if __name__ == "__main__":
    unittest.main()
