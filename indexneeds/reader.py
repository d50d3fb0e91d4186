"""Goes through a text's tokens from left to right, and tells the fault of one that can't stand where it stands."""

from indexneeds.faults import Fault, MISPLACED, OUT_OF_RANGE
from indexneeds.scan import END, NUMBER, WORD

RESERVED = (
    "table", "row", "ask", "index", "where", "and", "from", "to",
    "by", "back", "wants", "first", "times", "on", "with", "only",
)


class Reader:
    def __init__(self, tokens):
        self.tokens = tokens
        self.position = 0

    def current(self):
        return self.tokens[self.position]

    def stands(self, spelling):
        return self.current().spelling == spelling

    def skip_if(self, spelling):
        if not self.stands(spelling):
            return False
        self.position += 1
        return True

    def expect(self, spelling):
        if not self.skip_if(spelling):
            raise Fault(MISPLACED, self.current().place)

    def expect_end(self):
        if self.current().kind != END:
            raise Fault(MISPLACED, self.current().place)

    def take_name(self):
        token = self.current()
        if token.kind != WORD or token.spelling in RESERVED:
            raise Fault(MISPLACED, token.place)
        self.position += 1
        return token.spelling

    def take_number(self, lowest, highest):
        token = self.current()
        if token.kind != NUMBER:
            raise Fault(MISPLACED, token.place)
        if not lowest <= token.number <= highest:
            raise Fault(OUT_OF_RANGE, token.place)
        self.position += 1
        return token.number
