"""From a list of numbers to the calls that it tells, one behind another."""

# How many whole numbers, and how many rows, each call has behind its number.
SHAPES = {
    0: (0, 1), 1: (0, 0), 2: (0, 0), 3: (1, 0), 4: (1, 0), 5: (0, 1),
    6: (1, 0), 7: (1, 0), 8: (1, 0), 9: (0, 2), 10: (1, 0), 11: (1, 0),
}


class Call:
    def __init__(self, kind, numbers, rows):
        self.kind = kind
        self.numbers = numbers
        self.rows = rows


class Line:
    def __init__(self, figures):
        self.figures = figures
        self.position = 0

    def has_more(self):
        return self.position < len(self.figures)

    def next_call(self):
        kind = self.next_number()
        shape = SHAPES[kind]
        numbers = []
        while len(numbers) < shape[0]:
            numbers.append(self.next_number())
        rows = []
        while len(rows) < shape[1]:
            rows.append(self.next_row())
        return Call(kind, numbers, rows)

    def next_number(self):
        number = self.figures[self.position]
        self.position += 1
        return number

    def next_row(self):
        length = self.next_number()
        row = self.figures[self.position:self.position + length]
        self.position += length
        return row
