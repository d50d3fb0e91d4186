"""The interface: how calls are written, what is given back, and what is not kept or changed."""

import unittest

from indexneeds.desk import answers

from helper import FAR, SHOWN, TABLE, ask, count, index, load, run

TEXT = "table (a, b); row 1, 5 times 10; row 2, 5 times 30; ask q by a back; index i on b only a = 1;"


def joined(*calls):
    return [number for call in calls for number in call]


class DeskTest(unittest.TestCase):
    def test_each_answer_has_its_length_ahead(self):
        self.assertEqual(answers([1]), [1, -8])
        self.assertEqual(answers([2, 1, 2]), [1, -8, 1, -8, 1, -8])
        self.assertEqual(answers([0, 0]), [3, 1, 2, 0])
        text = list(b"table (a);")
        self.assertEqual(
            answers([0, 10] + text + [1, 2, 5, 1, 0, 3, 0, 4, 0, 5, 0]),
            [5, 0, 1, 0, 0, 0, 12, 11] + text + [10, 2, 1, 0, 2, 0, 0, 1, -2, 1, -3, 1, -4],
        )

    def test_a_refused_call_is_read_whole(self):
        calls = [load(TEXT.ljust(1300)), ask(5), index(5), count([1, 0, 5]), count([]), load(TEXT), TABLE]
        given = run(*calls)
        self.assertEqual(given, [[-1], [-8], [-8], [-8], [-8], [0, 2, 2, 1, 1], [2, 2, 1, 5, 10, 2, 5, 30]])

    def test_60_calls(self):
        pieces = [load(TEXT), SHOWN, TABLE, ask(0), index(0), count([1, 0, 2, 2])]
        once = run(*pieces)
        self.assertEqual(run(*(pieces * 10)), once * 10)
        self.assertEqual(run(*([TABLE] * 60)), [[-8]] * 60)

    def test_13_of_the_longest_texts(self):
        calls = [load(TEXT.ljust(1200))] * 6 + [load(TEXT.ljust(1300))] * 6 + [TABLE]
        wanted = [[0, 2, 2, 1, 1]] * 6 + [[-1]] * 6 + [[2, 2, 1, 5, 10, 2, 5, 30]]
        self.assertEqual(run(*calls), wanted)

    def test_what_is_handed_in_is_not_changed(self):
        calls = joined(load(TEXT), SHOWN, TABLE, ask(0), ask(FAR), index(0), count([1, 0, 2, 2]), count([3]), load("?"))
        before = list(calls)
        answers(calls)
        self.assertEqual(calls, before)

    def test_what_is_given_back_is_new(self):
        calls = joined(load(TEXT), TABLE, ask(0), index(0))
        first = answers(calls)
        wanted = list(first)
        first.clear()
        self.assertEqual(answers(calls), wanted)

    def test_nothing_is_kept(self):
        calls = joined(SHOWN, TABLE, ask(0), index(0), count([0]))
        before = answers(calls)
        answers(joined(load(TEXT), SHOWN))
        self.assertEqual(answers(calls), before)
        self.assertEqual(before, [1, -8] * 5)

    def test_asking_changes_nothing(self):
        pieces = [SHOWN, TABLE, ask(0), index(0), count([1, 0, 2, 2]), ask(-FAR), index(FAR), count([FAR])]
        given = run(load(TEXT), *pieces, *pieces)[1:]
        self.assertEqual(given[:8], given[8:])

    def test_whole_numbers_alone_are_given_back(self):
        given = answers(joined(load(TEXT), SHOWN, TABLE, ask(0), index(0), count([0]), ask(1), load("?")))
        self.assertIs(type(given), list)
        self.assertEqual({type(number) for number in given}, {int})


if __name__ == "__main__":
    unittest.main()
