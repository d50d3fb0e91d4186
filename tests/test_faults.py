"""Faults 3, 4 and 5, their places, and which one counts where there are several."""

import unittest

from helper import load_answer, marked


def rows(many):
    return " ".join([f"row {number // 10}, {number % 10} times 1;" for number in range(many)])


def questions(many):
    return " ".join([f"ask {name};" for name in "abcdefghij"[:many]])


def indexes(many):
    return " ".join([f"index {name} on a;" for name in "abcdefghij"[:many]])


class FaultCase(unittest.TestCase):
    def fault(self, kind, text):
        plain, place = marked(text)
        self.assertEqual(load_answer(plain), [1, kind, place], plain)

    def accepted(self, text, counts):
        self.assertEqual(load_answer(text), [0] + counts, text)


class Fault3Test(FaultCase):
    def test_values_9_and_10(self):
        self.accepted("table (a, b); row 0, 9 times 1; row 9, 0 times 1;", [2, 2, 0, 0])
        self.fault(3, "table (a, b); row ^10, 9 times 1;")
        self.fault(3, "table (a, b); row 9, ^10 times 1;")
        self.fault(3, "table (a, b); row 9, ^9999999 times 1;")
        for ahead in ("ask q where", "index i on a only"):
            self.assertEqual(load_answer(f"table (a); {ahead} a = 0;")[0], 0)
            self.assertEqual(load_answer(f"table (a); {ahead} a = 9;")[0], 0)
            self.assertEqual(load_answer(f"table (a); {ahead} a from 0 to 9;")[0], 0)
            self.fault(3, f"table (a); {ahead} a = ^10;")
            self.fault(3, f"table (a); {ahead} a from ^10 to 9;")
            self.fault(3, f"table (a); {ahead} a from ^10 to 10;")
            self.fault(3, f"table (a); {ahead} a from 9 to ^10;")

    def test_from_and_to(self):
        for ahead in ("ask q where", "index i on a only"):
            self.assertEqual(load_answer(f"table (a); {ahead} a from 4 to 4;")[0], 0)
            self.assertEqual(load_answer(f"table (a); {ahead} a from 4 to 5;")[0], 0)
            self.fault(3, f"table (a); {ahead} a from 4 to ^3;")
            self.fault(3, f"table (a); {ahead} a from 9 to ^0;")

    def test_how_many_rows(self):
        self.accepted("table (a); row 0 times 1;", [1, 1, 0, 0])
        self.accepted("table (a); row 0 times 1000000;", [1, 1, 0, 0])
        self.fault(3, "table (a); row 0 times ^0;")
        self.fault(3, "table (a); row 0 times ^1000001;")

    def test_limits(self):
        self.accepted("table (a); ask q first 1;", [1, 0, 1, 0])
        self.accepted("table (a); ask q first 1000000;", [1, 0, 1, 0])
        self.fault(3, "table (a); ask q first ^0;")
        self.fault(3, "table (a); ask q first ^1000001;")

    def test_how_often(self):
        self.accepted("table (a); ask q times 0;", [1, 0, 1, 0])
        self.accepted("table (a); ask q times 1000;", [1, 0, 1, 0])
        self.fault(3, "table (a); ask q times ^1001;")
        self.fault(3, "table (a); ask q times ^9999999;")


class Fault4Test(FaultCase):
    def test_a_column_that_is_there_already(self):
        self.fault(4, "table (a, ^a);")
        self.fault(4, "table (a, b, c, ^b);")
        self.fault(4, "table (a, b, c, d, ^a);")
        self.fault(4, "table (a, b, c, d, ^d);")

    def test_no_such_column(self):
        self.fault(4, "table (a, b); ask q where ^c = 1;")
        self.fault(4, "table (a, b); ask q where a = 1 and ^c = 1;")
        self.fault(4, "table (a, b); ask q by ^c;")
        self.fault(4, "table (a, b); ask q by a, ^c;")
        self.fault(4, "table (a, b); ask q wants ^c;")
        self.fault(4, "table (a, b); ask q wants ^q;")
        self.fault(4, "table (a, b); index i on ^c;")
        self.fault(4, "table (a, b); index i on a with ^c;")
        self.fault(4, "table (a, b); index i on a only ^c = 1;")
        self.fault(4, "table (ab); ask q by ^a;")

    def test_a_column_that_stands_already(self):
        self.fault(4, "table (a, b); ask q by a, ^a;")
        self.fault(4, "table (a, b); ask q by a, b, ^a;")
        self.fault(4, "table (a, b); ask q wants b, ^b;")
        self.fault(4, "table (a, b); index i on b, ^b;")
        self.fault(4, "table (a, b); index i on a with b, ^b;")
        self.fault(4, "table (a, b); index i on a with ^a;")
        self.fault(4, "table (a, b, c); index i on a, b with c, ^b;")

    def test_a_column_may_stand_again_elsewhere(self):
        self.accepted("table (a, b); ask q where a = 1 by a, b wants b, a; ask r where a = 1 by a;", [2, 0, 2, 0])
        self.accepted("table (a, b); index i on a with b only a = 1; index j on a only b = 1;", [2, 0, 0, 2])

    def test_a_second_filter_of_a_column(self):
        self.fault(4, "table (a, b); ask q where a = 1 and ^a = 1;")
        self.fault(4, "table (a, b); ask q where a = 1 and b = 2 and ^a from 3 to 4;")
        self.fault(4, "table (a, b); ask q where a from 1 to 2 and b = 2 and ^b = 1;")

    def test_a_second_filter_is_told_when_read_whole(self):
        self.fault(3, "table (a); ask q where a = 1 and a = ^10;")
        self.fault(3, "table (a); ask q where a = 1 and a from 5 to ^4;")
        self.fault(2, "table (a); ask q where a = 1 and a ^;")
        self.fault(2, "table (a); ask q where a = 1 and a = ^;")
        self.fault(2, "table (a); ask q where a = 1 and a from 1 ^and;")
        self.fault(2, "table (a); ask q where a = 1 and a from 1 to ^")
        self.fault(4, "table (a); ask q where a = 1 and ^a = 2")
        self.fault(4, "table (a); ask q where a = 1 and ^a = 2 table")
        self.fault(4, "table (a); ask q where a = 1 and ^a from 1 to 2 3")
        self.fault(4, "table (a); ask q where a = 1 and ^a = 2 and a = 10")

    def test_a_row_that_is_there_already(self):
        self.fault(4, "table (a, b); row 1, 2 times 3; row ^1, 2 times 4;")
        self.fault(4, "table (a, b); row 1, 2 times 3; row 2, 1 times 4; row ^1, 2 times 4;")
        self.fault(4, "table (a); row 1 times 3; row ^1 times 3;")
        self.accepted("table (a, b); row 1, 2 times 3; row 2, 1 times 3; row 1, 1 times 3;", [2, 3, 0, 0])

    def test_such_a_row_is_told_when_its_last_value_has_been_read(self):
        self.fault(4, "table (a, b); row 1, 2 times 3; row ^1, 2")
        self.fault(4, "table (a, b); row 1, 2 times 3; row ^1, 2, 3 times 1;")
        self.fault(4, "table (a, b); row 1, 2 times 3; row ^1, 2 times 0;")
        self.fault(4, "table (a, b); row 1, 2 times 3; row ^1, 2;")
        self.fault(2, "table (a, b); row 1, 2 times 3; row 1 ^times 3;")
        self.fault(2, "table (a, b); row 1, 2 times 3; row 1,^")
        self.fault(3, "table (a, b); row 1, 2 times 3; row 1, ^12 times 3;")

    def test_a_name_that_an_earlier_one_has(self):
        self.fault(4, "table (a); ask q; ask ^q;")
        self.fault(4, "table (a); ask q; ask r; ask ^q")
        self.fault(4, "table (a); index i on a; index ^i on a;")
        self.fault(4, "table (a); index i on a; index j on a; index ^i")
        self.accepted("table (a); ask a; ask q; index a on a; index q on a;", [1, 0, 2, 2])


class Fault5Test(FaultCase):
    def test_4_and_5_columns(self):
        self.accepted("table (a, b, c, d);", [4, 0, 0, 0])
        self.fault(5, "table (a, b, c, d, ^e);")
        self.fault(5, "table (a, b, c, d, ^e")
        self.fault(2, "table (a, b, c, d, ^1);")
        self.fault(2, "table (a, b, c, d, ^);")

    def test_12_and_13_rows(self):
        self.accepted(f"table (a, b); {rows(12)}", [2, 12, 0, 0])
        self.fault(5, f"table (a, b); {rows(12)} ^row 9, 9 times 1;")
        self.fault(5, f"table (a, b); {rows(12)} ^row")
        self.fault(5, f"table (a, b); {rows(12)} ^row 0, 0 times 0;")
        self.fault(2, f"table (a, b); {rows(12)} ask q; ^row 9, 9 times 1;")

    def test_6_and_7_questions(self):
        self.accepted(f"table (a, b); {questions(6)}", [2, 0, 6, 0])
        self.fault(5, f"table (a, b); {questions(6)} ^ask q;")
        self.fault(5, f"table (a, b); {questions(6)} ^ask a;")
        self.fault(5, f"table (a, b); {questions(6)} ^ask")
        self.fault(2, f"table (a, b); {questions(6)} index i on a; ^ask q;")

    def test_8_and_9_indexes(self):
        self.accepted(f"table (a, b); {indexes(8)}", [2, 0, 0, 8])
        self.fault(5, f"table (a, b); {indexes(8)} ^index q on a;")
        self.fault(5, f"table (a, b); {indexes(8)} ^index")
        self.fault(2, f"table (a, b); {indexes(8)} ^row 1, 1 times 1;")
        self.fault(2, f"table (a, b); {indexes(8)} ^i")

    def test_all_that_a_text_may_have(self):
        text = f"table (a, b, c, d); {rows(12)} {questions(6)} {indexes(8)}".replace(" times", ", 0, 0 times")
        self.accepted(text, [4, 12, 6, 8])


class WhichFaultTest(FaultCase):
    def test_the_first_that_reading_comes_to(self):
        self.fault(3, "table (a); row ^10 times 0 row")
        self.fault(2, "table (a) ^row 10 times 0;")
        self.fault(4, "table (a, ^a) row")
        self.fault(4, "table (a); ask q by ^x back back;")
        self.fault(3, "table (a); ask q first ^0 first 1;")
        self.fault(2, "table (a); ask q first 1 ^first 0;")
        self.fault(3, "table (a); row 1 times ^0; row 1 times 1;")
        self.fault(4, "table (a); row 1 times 1; row ^1 times 0;")
        self.fault(4, "table (a); ask q; ask ^q where x = 10;")
        self.fault(4, "table (a); ask q where ^x = 10;")
        self.fault(4, "table (a); ask q where ^x")
        self.fault(3, "table (a); ask q where a from ^10 from")
        self.fault(4, "table (a); index i on a; index ^i a")
        self.fault(5, "table (a, b, c, d, ^e, a;")


if __name__ == "__main__":
    unittest.main()
