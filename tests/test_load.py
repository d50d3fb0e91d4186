"""load: how long a text may be, what it answers, and which text there is from then on."""

import unittest

from helper import (
    SHOWN, TABLE, alone, answer, ask, count, implies, index, load, load_answer, room, run, serves, split,
)

OTHERS = [
    SHOWN, TABLE, ask(0), index(0), count([0]),
    split(0), answer(0), alone(0), implies([0], [0, 1, 3]), serves(0), room(0),
]
NO_TEXT = [[-8]] * len(OTHERS)
ONE = "table (a); row 1 times 2; ask q; index i on a;"
TWO = "table (c, d); row 3, 4 times 5; row 4, 4 times 1;"


class LoadTest(unittest.TestCase):
    def test_1200_and_1201_bytes(self):
        for blank in " \n":
            self.assertEqual(load_answer(ONE.ljust(1200, blank)), [0, 1, 1, 1, 1])
            self.assertEqual(load_answer(ONE.rjust(1200, blank)), [0, 1, 1, 1, 1])
            self.assertEqual(load_answer(ONE.ljust(1201, blank)), [-1])
            self.assertEqual(load_answer(ONE.ljust(1300, blank)), [-1])

    def test_too_long_comes_ahead_of_a_fault(self):
        self.assertEqual(load_answer("?" * 1200), [1, 1, 0])
        self.assertEqual(load_answer("?" * 1201), [-1])
        self.assertEqual(load_answer(" " * 1200), [1, 2, 1200])
        self.assertEqual(load_answer(" " * 1201), [-1])
        self.assertEqual(load_answer([255] * 1300), [-1])

    def test_a_fault_at_the_end_of_1200_bytes(self):
        self.assertEqual(load_answer(ONE.ljust(1199) + "?"), [1, 1, 1199])
        self.assertEqual(load_answer(ONE.ljust(1199) + "("), [1, 2, 1199])
        self.assertEqual(load_answer(ONE[:-1].ljust(1200)), [1, 2, 1200])

    def test_the_counts(self):
        self.assertEqual(load_answer("table (a);"), [0, 1, 0, 0, 0])
        self.assertEqual(load_answer("table (a, b, c); row 1, 1, 1 times 1; row 2, 1, 1 times 1;"), [0, 3, 2, 0, 0])
        self.assertEqual(load_answer("table (a, b); ask q; ask r; ask s;"), [0, 2, 0, 3, 0])
        self.assertEqual(load_answer("table (a); index i on a; index j on a;"), [0, 1, 0, 0, 2])

    def test_the_new_object_has_no_text(self):
        self.assertEqual(run(*OTHERS), NO_TEXT)

    def test_what_is_not_loaded_gives_no_text(self):
        for text in ("", "table (a)", "?", "table (a, a);", "table (a); row 10 times 1;", ONE.ljust(1201)):
            self.assertEqual(run(load(text), *OTHERS)[1:], NO_TEXT, text)

    def test_a_second_load_replaces_the_text(self):
        given = run(load(ONE), load(TWO), *OTHERS)
        self.assertEqual(given[:2], [[0, 1, 1, 1, 1], [0, 2, 2, 0, 0]])
        self.assertEqual(given[2:], run(load(TWO), *OTHERS)[1:])
        self.assertEqual(
            given[3:],
            [
                [2, 2, 3, 4, 5, 4, 4, 1], [-2], [-3], [6, 6],
                [0, 0, 0, 5, 1, 0, 0, 0, 0, 0], [-2], [-2], [0, 0], [-2], [-3],
            ],
        )

    def test_a_second_load_brings_its_questions_and_indexes(self):
        given = run(load(TWO), load(ONE), *OTHERS)
        self.assertEqual(given[2:], run(load(ONE), *OTHERS)[1:])
        self.assertEqual(
            given[7:],
            [[0, 2, 0, 0, 0, 0, 0, 0, 0, 0], [2, 1, 2], [2, 0], [0, 1], [1, 0, 1, 1], [2, 4]],
        )

    def test_a_fault_leaves_the_earlier_text(self):
        wanted = run(load(ONE), *OTHERS)[1:]
        for text, answer in (
            (TWO + "?", [1, 1, len(TWO)]),
            (TWO + "(", [1, 2, len(TWO)]),
            (TWO + "row 10, 1 times 1;", [1, 3, len(TWO) + 4]),
            (TWO + "row 3, 4 times 1;", [1, 4, len(TWO) + 4]),
            ("table (a, b, c, d, e);", [1, 5, 19]),
            ("", [1, 2, 0]),
        ):
            given = run(load(ONE), load(text), *OTHERS)
            self.assertEqual(given[1], answer, text)
            self.assertEqual(given[2:], wanted, text)

    def test_too_long_leaves_the_earlier_text(self):
        given = run(load(ONE), load(TWO.ljust(1201)), *OTHERS)
        self.assertEqual(given[1], [-1])
        self.assertEqual(given[2:], run(load(ONE), *OTHERS)[1:])

    def test_a_text_behind_a_fault(self):
        self.assertEqual(run(load("?"), load(ONE), TABLE), [[1, 1, 0], [0, 1, 1, 1, 1], [1, 1, 1, 2]])


if __name__ == "__main__":
    unittest.main()
