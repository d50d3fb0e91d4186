"""shown: the one form of a text."""

import unittest

from helper import SHOWN, TABLE, ask, form_of, index, load, run

RICH = (
    "table(aa,b,c,ddddddd);row 0,1,2,3times 1;row 9,9,9,9 times 1000000;"
    "ask q where aa=2and b from 1to 3and c from 4 to 4 by b,aa back wants aa,ddddddd first 3;"
    "ask r times 0;ask s by c times 1000;ask t wants b first 1000000 times 1;ask u where b from 0 to 9;"
    "index i on aa,b with c,ddddddd only aa=1;index j on c;index k on b,c only b from 2 to 2;index l on c with b;"
)

RICH_FORM = """\
table (aa, b, c, ddddddd);
row 0, 1, 2, 3 times 1;
row 9, 9, 9, 9 times 1000000;
ask q where aa = 2 and b from 1 to 3 and c = 4 by b, aa back wants aa, ddddddd first 3 times 1;
ask r times 0;
ask s by c times 1000;
ask t wants b first 1000000 times 1;
ask u where b from 0 to 9 times 1;
index i on aa, b with c, ddddddd only aa = 1;
index j on c;
index k on b, c only b = 2;
index l on c with b;
"""


class ShownTest(unittest.TestCase):
    def shows(self, text, form):
        self.assertEqual(form_of("table (a, b);" + text), "table (a, b);\n" + form)

    def test_the_table_alone(self):
        self.assertEqual(form_of("table(x);"), "table (x);\n")
        self.assertEqual(run(load("table(x);"), SHOWN)[1], [11] + list(b"table (x);\n"))
        self.assertEqual(form_of("table(d,c,b,a);"), "table (d, c, b, a);\n")

    def test_all_of_it(self):
        self.assertEqual(form_of(RICH), RICH_FORM)

    def test_read_again_it_is_shown_the_same(self):
        calls = [SHOWN, TABLE] + [ask(number) for number in range(6)] + [index(number) for number in range(5)]
        for text in ("table(a);", RICH):
            first = run(load(text), *calls)
            again = run(load(bytes(first[1][1:])), *calls)
            self.assertEqual(again, first)

    def test_rows_stay_in_their_order(self):
        self.shows("row 2,1times 7;row 1,2times 3;", "row 2, 1 times 7;\nrow 1, 2 times 3;\n")

    def test_an_equal_filter_written_with_from_and_to(self):
        self.shows("ask q where a from 3 to 3;", "ask q where a = 3 times 1;\n")
        self.shows("ask q where b from 0 to 0 and a from 0 to 1;", "ask q where b = 0 and a from 0 to 1 times 1;\n")
        self.shows("index i on a only b from 9 to 9;", "index i on a only b = 9;\n")

    def test_what_a_question_has_not_is_not_shown(self):
        self.shows("ask q;", "ask q times 1;\n")
        self.shows("ask q times 1;", "ask q times 1;\n")
        self.shows("ask q by b;", "ask q by b times 1;\n")
        self.shows("ask q by b, a back;", "ask q by b, a back times 1;\n")
        self.shows("ask q wants b, a times 0;", "ask q wants b, a times 0;\n")
        self.shows("ask q first 1;", "ask q first 1 times 1;\n")

    def test_what_an_index_has_not_is_not_shown(self):
        self.shows("index i on b;", "index i on b;\n")
        self.shows("index i on b, a;", "index i on b, a;\n")
        self.shows("index i on b with a;", "index i on b with a;\n")
        self.shows("index i on b only a = 0;", "index i on b only a = 0;\n")


if __name__ == "__main__":
    unittest.main()
