"""The interface: how calls are written, what is given back, and what is not kept or changed."""

import unittest

from indexneeds.desk import answers

from helper import (
    FAR, SHOWN, TABLE, alone, answer, ask, count, implies, index, load, room, run, serves, split,
)

TEXT = "table (a, b); row 1, 5 times 10; row 2, 5 times 30; ask q by a back; index i on b only a = 1;"

# Each of the twelve calls, as it is answered from the text, and as it is refused.
EACH = [
    load(TEXT), SHOWN, TABLE, ask(0), index(0), count([1, 0, 2, 2]),
    split(1), answer(0), alone(0), implies([1, 0, 2, 2], [1, 5, 5]), serves(0), room(0),
]
REFUSED = [
    load(TEXT.ljust(1201)), ask(1), index(-FAR), count([3]),
    split(2), answer(FAR), alone(-1), implies([], [0, 1, 1]), implies([0], [0, 1]), serves(-FAR), room(1),
]
REFUSALS = [[-1], [-2], [-3], [-4], [-5], [-2], [-2], [-4], [-4], [-2], [-3]]


def joined(*calls):
    return [number for call in calls for number in call]


class DeskTest(unittest.TestCase):
    def test_each_answer_has_its_length_ahead(self):
        self.assertEqual(answers([1]), [1, -8])
        self.assertEqual(answers([2, 1, 2]), [1, -8, 1, -8, 1, -8])
        self.assertEqual(answers([0, 0]), [3, 1, 2, 0])
        text = list(b"table (a);")
        self.assertEqual(
            answers([0, 10] + text + [1, 2, 5, 1, 0, 3, 0, 4, 0, 5, 0]),
            [5, 0, 1, 0, 0, 0, 12, 11] + text + [10, 2, 1, 0, 2, 0, 0, 1, -2, 1, -3, 1, -4],
        )

    def test_each_answer_of_the_later_calls(self):
        text = list(b"table (a);")
        self.assertEqual(
            answers([0, 10] + text + [6, 0, 6, 1, 7, 0, 8, 0, 9, 1, 0, 3, 0, 2, 2, 9, 0, 0, 10, 0, 11, 0]),
            [5, 0, 1, 0, 0, 0, 10] + [0] * 10 + [1, -5, 1, -2, 1, -2, 2, 0, 1, 1, -4, 1, -2, 1, -3],
        )
        self.assertEqual(
            answers([6, 0, 7, 0, 8, 0, 9, 2, 5, 6, 1, 7, 10, 0, 11, 0, 9, 0, 0]),
            [1, -8] * 7,
        )

    def test_each_call(self):
        form = (
            b"table (a, b);\nrow 1, 5 times 10;\nrow 2, 5 times 30;\n"
            b"ask q by a back times 1;\nindex i on b only a = 1;\n"
        )
        self.assertEqual(
            run(*EACH),
            [
                [0, 2, 2, 1, 1], [len(form)] + list(form), [2, 2, 1, 5, 10, 2, 5, 30],
                [0, 1, 0, 1, 0, 0, 1], [1, 1, 0, 1, 0, 1, 1], [30, 40],
                [0, 0, 0, 0, 0, 40, 0, 0, 0, 0], [40, 2, 30, 2, 10, 1], [40, 0], [0, 1], [0], [10, 20],
            ],
        )

    def test_each_refusal(self):
        self.assertEqual(run(load(TEXT), *REFUSED)[1:], REFUSALS)
        self.assertEqual(run(*REFUSED), [[-1]] + [[-8]] * 10)

    def test_a_refused_call_is_read_whole(self):
        calls = [load(TEXT.ljust(1300)), ask(5), index(5), count([1, 0, 5]), count([]), load(TEXT), TABLE]
        given = run(*calls)
        self.assertEqual(given, [[-1], [-8], [-8], [-8], [-8], [0, 2, 2, 1, 1], [2, 2, 1, 5, 10, 2, 5, 30]])

    def test_60_calls(self):
        once = run(*EACH)
        self.assertEqual(run(*(EACH * 5)), once * 5)
        self.assertEqual(run(*([TABLE] * 60)), [[-8]] * 60)
        mixed = (EACH + REFUSED + [load("?")]) * 2 + EACH
        self.assertEqual(len(mixed), 60)
        self.assertEqual(run(*mixed), (once + REFUSALS + [[1, 1, 0]]) * 2 + once)

    def test_calls_in_any_order(self):
        once = run(*EACH)
        self.assertEqual(run(EACH[0], *reversed(EACH)), [once[0]] + once[::-1])

    def test_13_of_the_longest_texts(self):
        calls = [load(TEXT.ljust(1200))] * 6 + [load(TEXT.ljust(1300))] * 6 + [TABLE]
        wanted = [[0, 2, 2, 1, 1]] * 6 + [[-1]] * 6 + [[2, 2, 1, 5, 10, 2, 5, 30]]
        self.assertEqual(run(*calls), wanted)

    def test_what_is_handed_in_is_not_changed(self):
        calls = joined(*EACH, *REFUSED, load("?"))
        before = list(calls)
        answers(calls)
        self.assertEqual(calls, before)

    def test_what_is_given_back_is_new(self):
        calls = joined(*EACH)
        first = answers(calls)
        wanted = list(first)
        first.clear()
        self.assertEqual(answers(calls), wanted)

    def test_nothing_is_kept(self):
        calls = joined(*EACH[1:])
        before = answers(calls)
        answers(joined(*EACH, *REFUSED))
        self.assertEqual(answers(calls), before)
        self.assertEqual(before, [1, -8] * 11)

    def test_asking_changes_nothing(self):
        pieces = EACH[1:] + REFUSED
        given = run(load(TEXT), *pieces, *pieces)[1:]
        self.assertEqual(given[:len(pieces)], given[len(pieces):])

    def test_whole_numbers_alone_are_given_back(self):
        given = answers(joined(*EACH, *REFUSED, load("?")))
        self.assertIs(type(given), list)
        self.assertEqual({type(number) for number in given}, {int})


if __name__ == "__main__":
    unittest.main()
