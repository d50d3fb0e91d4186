"""The later calls on many small texts, beside what comes out when every single row and value is gone through."""

import itertools
import random
import unittest

from helper import alone, answer, implies, load, room, run, serves, split

VALUES = range(10)


class Told:
    """One text's table, questions and indexes, drawn from a source that's the same each time."""

    def __init__(self, seed):
        draw = random.Random(seed)
        self.columns = "abcd"[:draw.randint(1, 4)]
        every = list(itertools.product((0, 1, 9), repeat=len(self.columns)))
        chosen = draw.sample(every, min(len(every), draw.randint(0, 12)))
        self.groups = [(cells, draw.randint(1, 4)) for cells in chosen]
        self.questions = [self.question(draw) for _ in range(6)]
        self.indexes = [self.index(draw) for _ in range(8)]

    def some(self, draw, least=0):
        return draw.sample(range(len(self.columns)), draw.randint(least, len(self.columns)))

    def filter(self, draw, column):
        low = draw.choice((0, 0, 1, 1, 5, 9))
        return column, low, draw.choice((low, max(low, 1), 9))

    def filters(self, draw):
        return [self.filter(draw, column) for column in self.some(draw)]

    def question(self, draw):
        order = self.some(draw)
        back = bool(order) and draw.random() < 0.5
        return self.filters(draw), order, back, self.some(draw), draw.choice((0, 0, 1, 3, 6, 50))

    def index(self, draw):
        columns = self.some(draw, 1)
        keys = draw.randint(1, len(columns))
        condition = self.filter(draw, draw.randrange(len(self.columns))) if draw.random() < 0.6 else None
        return columns[:keys], columns[keys:], condition

    def rows(self):
        return [cells for cells, many in self.groups for _ in range(many)]

    def names(self, columns):
        return ",".join([self.columns[column] for column in columns])

    def filter_words(self, told):
        return f"{self.columns[told[0]]} from {told[1]} to {told[2]}"

    def text(self):
        words = f"table({','.join(self.columns)});"
        for cells, many in self.groups:
            words += f"row {','.join(map(str, cells))}times {many};"
        for name, (filters, order, back, wanted, limit) in zip("qrstuv", self.questions):
            words += f"ask {name} "
            words += "where " + " and ".join(map(self.filter_words, filters)) if filters else ""
            words += (f" by {self.names(order)}" if order else "") + (" back" if back else "")
            words += (f" wants {self.names(wanted)}" if wanted else "") + (f" first {limit}" if limit else "") + ";"
        for name, (keys, included, condition) in zip("ijklmnop", self.indexes):
            words += f"index {name} on {self.names(keys)}"
            words += f" with {self.names(included)}" if included else ""
            words += (f" only {self.filter_words(condition)}" if condition else "") + ";"
        return words


def passing(rows, filters):
    return [row for row in rows if all(row[column] in range(low, high + 1) for column, low, high in filters)]


def answered(rows, question):
    filters, order, back, _, limit = question
    found = sorted([tuple(row[column] for column in order) for row in passing(rows, filters)], reverse=back)
    found = found[:limit] if limit else found
    parts = [(len(list(same)), cells) for cells, same in itertools.groupby(found)]
    return [len(found), len(parts)] + [number for many, cells in parts for number in (many, *cells)]


def left_by_each(rows, question):
    filters = question[0]
    return [len(passing(rows, filters)), len(filters)] + [len(passing(rows, [told])) for told in filters]


def let_pass(told):
    return {value for value in VALUES if told[1] <= value <= told[2]}


def implied(rows, filters, one_more):
    narrower = [told for told in filters if told[0] == one_more[0] and let_pass(told) <= let_pass(one_more)]
    said = len(let_pass(one_more)) == 10 or len(narrower) > 0
    found = passing(rows, filters)
    return [int(said), int(passing(found, [one_more]) == found)]


def serving(question, indexes):
    filters, order, _, wanted, _ = question
    equal = {column for column, low, high in filters if low == high}
    needed = {told[0] for told in filters} | set(order) | set(wanted)
    told = []
    for number, (keys, included, condition) in enumerate(indexes):
        if condition and not any(f[0] == condition[0] and let_pass(f) <= let_pass(condition) for f in filters):
            continue
        rest = [column for column in order if column not in equal]
        keys_left = [column for column in keys if column not in equal]
        free = len(rest) <= len(keys_left) and all(one == two for one, two in zip(rest, keys_left))
        told.append([number, int(needed <= set(keys + included)), int(free)])
    return [len(told)] + [number for one in told for number in one]


def taken(rows, index):
    keys, included, condition = index
    entries = passing(rows, [condition] if condition else [])
    return [len(entries), sum(1 + len(keys) + len(included) for _ in entries)]


class ByRowsTest(unittest.TestCase):
    def compare(self, told, calls, wanted):
        given = run(load(told.text()), *calls)
        self.assertEqual(given[0], [0, len(told.columns), len(told.groups), 6, 8], told.text())
        self.assertEqual(given[1:], wanted, told.text())

    def test_split_and_room(self):
        for seed in range(60):
            told = Told(seed)
            rows = told.rows()
            columns = range(len(told.columns))
            wanted = [[len([row for row in rows if row[at] == value]) for value in VALUES] for at in columns]
            wanted += [taken(rows, index) for index in told.indexes]
            self.compare(told, [split(at) for at in columns] + [room(number) for number in range(8)], wanted)

    def test_answer_and_alone(self):
        for seed in range(200):
            told = Told(seed)
            rows = told.rows()
            wanted = [answered(rows, question) for question in told.questions]
            wanted += [left_by_each(rows, question) for question in told.questions]
            self.compare(told, [call(number) for call in (answer, alone) for number in range(6)], wanted)

    def test_serves(self):
        for seed in range(200):
            told = Told(seed)
            wanted = [serving(question, told.indexes) for question in told.questions]
            self.compare(told, [serves(number) for number in range(6)], wanted)

    def test_implies(self):
        for seed in range(200):
            told = Told(seed)
            draw = random.Random(-seed)
            calls = []
            wanted = []
            for _ in range(10):
                filters = told.filters(draw)
                one_more = told.filter(draw, draw.randrange(len(told.columns)))
                numbers = [len(filters)] + [number for given in filters for number in given]
                calls.append(implies(numbers, list(one_more)))
                wanted.append(implied(told.rows(), filters, one_more))
            self.compare(told, calls, wanted)


if __name__ == "__main__":
    unittest.main()
