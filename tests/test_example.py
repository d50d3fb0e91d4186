"""The document's example, whole."""

import unittest

from helper import (
    SHOWN, TABLE, alone, answer, ask, count, form_of, implies, index, load, room, run, serves, split,
)

TEXT = (
    "table (a, b); row 1, 5 times 10; row 2, 5 times 30; row 2, 7 times 5; "
    "ask q where a = 2 by b back wants a first 32 times 7; ask r; "
    "index i on a, b; index j on b only a from 2 to 3;"
)

FORM = """\
table (a, b);
row 1, 5 times 10;
row 2, 5 times 30;
row 2, 7 times 5;
ask q where a = 2 by b back wants a first 32 times 7;
ask r times 1;
index i on a, b;
index j on b only a from 2 to 3;
"""


class ExampleTest(unittest.TestCase):
    def test_what_the_document_tells(self):
        told = (
            (load(TEXT), [0, 2, 3, 2, 2]),
            (ask(0), [1, 0, 2, 2, 1, 1, 1, 1, 0, 32, 7]),
            (index(1), [1, 1, 0, 1, 0, 2, 3]),
            (answer(0), [32, 2, 5, 7, 27, 5]),
            (alone(0), [35, 1, 35]),
            (serves(0), [2, 0, 1, 1, 1, 0, 1]),
            (serves(1), [1, 0, 1, 1]),
            (room(0), [45, 135]),
            (room(1), [35, 70]),
            (count([1, 1, 5, 6]), [40, 45]),
            (split(0), [0, 10, 35, 0, 0, 0, 0, 0, 0, 0]),
            (implies([1, 0, 2, 2], [0, 1, 5]), [1, 1]),
            (implies([1, 0, 1, 1], [1, 5, 5]), [0, 1]),
        )
        self.assertEqual(run(*[call for call, wanted in told]), [wanted for call, wanted in told])

    def test_what_follows_from_its_words(self):
        self.assertEqual(
            run(load(TEXT), TABLE, ask(1), index(0), count([0]), count([2, 0, 2, 2, 1, 7, 7])),
            [
                [0, 2, 3, 2, 2],
                [2, 3, 1, 5, 10, 2, 5, 30, 2, 7, 5],
                [0, 0, 0, 0, 0, 1],
                [2, 0, 1, 0, 0],
                [45, 45],
                [5, 45],
            ],
        )

    def test_what_else_follows_from_its_words(self):
        self.assertEqual(
            run(load(TEXT), answer(1), alone(1), split(1), implies([0], [1, 5, 7]))[1:],
            [[45, 1, 45], [45, 0], [0, 0, 0, 0, 0, 40, 0, 5, 0, 0], [0, 1]],
        )

    def test_shown(self):
        self.assertEqual(form_of(TEXT), FORM)
        data = list(FORM.encode("ascii"))
        self.assertEqual(run(load(TEXT), SHOWN)[1], [len(data)] + data)


if __name__ == "__main__":
    unittest.main()
