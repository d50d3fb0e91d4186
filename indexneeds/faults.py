"""What is told of a text that can't be read: the kind of its fault, and where it stands."""

NO_TOKEN = 1
MISPLACED = 2
OUT_OF_RANGE = 3
WRONG_WORD = 4
TOO_MANY = 5


class Fault(Exception):
    def __init__(self, kind, place):
        self.kind = kind
        self.place = place
