"""What a text tells: a table's columns and groups, the questions, the indexes."""

HIGHEST_VALUE = 9


class Sheet:
    def __init__(self, columns):
        self.columns = columns
        self.groups = []
        self.questions = []
        self.indexes = []


class Group:
    def __init__(self, cells, rows):
        self.cells = cells
        self.rows = rows


# A single filter is called a sieve where it is a local, since Python has a name of its own like the other.
class Filter:
    def __init__(self, column, low, high):
        self.column = column
        self.low = low
        self.high = high


# A question that tells nothing but its name has no limit and is asked once.
class Question:
    def __init__(self, name):
        self.name = name
        self.filters = []
        self.order = []
        self.backwards = False
        self.wanted = []
        self.limit = 0
        self.times = 1


class Index:
    def __init__(self, name, key_columns):
        self.name = name
        self.key_columns = key_columns
        self.included = []
        self.condition = None
