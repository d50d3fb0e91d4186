"""The document's example, as far as it speaks of load, ask, index and count."""

import unittest

from helper import SHOWN, TABLE, ask, count, form_of, index, load, run

TEXT = (
    "table (a, b); row 1, 5 times 10; row 2, 5 times 30; row 2, 7 times 5; "
    "ask q where a = 2 by b back wants a first 32 times 7; ask r; "
    "index i on a, b; index j on b only a from 2 to 3;"
)

FORM = """\
table (a, b);
row 1, 5 times 10;
row 2, 5 times 30;
row 2, 7 times 5;
ask q where a = 2 by b back wants a first 32 times 7;
ask r times 1;
index i on a, b;
index j on b only a from 2 to 3;
"""


class ExampleTest(unittest.TestCase):
    def test_what_the_document_tells(self):
        self.assertEqual(
            run(load(TEXT), ask(0), index(1), count([1, 1, 5, 6])),
            [[0, 2, 3, 2, 2], [1, 0, 2, 2, 1, 1, 1, 1, 0, 32, 7], [1, 1, 0, 1, 0, 2, 3], [40, 45]],
        )

    def test_what_follows_from_its_words(self):
        self.assertEqual(
            run(load(TEXT), TABLE, ask(1), index(0), count([0]), count([2, 0, 2, 2, 1, 7, 7])),
            [
                [0, 2, 3, 2, 2],
                [2, 3, 1, 5, 10, 2, 5, 30, 2, 7, 5],
                [0, 0, 0, 0, 0, 1],
                [2, 0, 1, 0, 0],
                [45, 45],
                [5, 45],
            ],
        )

    def test_shown(self):
        self.assertEqual(form_of(TEXT), FORM)
        data = list(FORM.encode("ascii"))
        self.assertEqual(run(load(TEXT), SHOWN)[1], [len(data)] + data)


if __name__ == "__main__":
    unittest.main()
