"""From a text's bytes to what it tells, or to its fault."""

from indexneeds.faults import Fault, TOO_MANY, WRONG_WORD
from indexneeds.reader import Reader
from indexneeds.scan import tokens_of
from indexneeds.sheet import Filter, Group, HIGHEST_VALUE, Index, Question, Sheet

MOST_COLUMNS = 4
MOST_GROUPS = 12
MOST_QUESTIONS = 6
MOST_INDEXES = 8
MOST_ROWS = 1000000
HIGHEST_LIMIT = 1000000
MOST_TIMES = 1000


def sheet_of(text):
    reader = Reader(tokens_of(text))
    sheet = Sheet(read_table(reader))
    while reader.stands("row"):
        check_room(reader, sheet.groups, MOST_GROUPS)
        sheet.groups.append(read_group(reader, sheet))
    while reader.stands("ask"):
        check_room(reader, sheet.questions, MOST_QUESTIONS)
        sheet.questions.append(read_question(reader, sheet))
    while reader.stands("index"):
        check_room(reader, sheet.indexes, MOST_INDEXES)
        sheet.indexes.append(read_index(reader, sheet))
    reader.expect_end()
    return sheet


def check_room(reader, earlier, most):
    if len(earlier) == most:
        raise Fault(TOO_MANY, reader.current().place)


def read_table(reader):
    reader.expect("table")
    reader.expect("(")
    columns = [read_new_name(reader, [])]
    while reader.skip_if(","):
        place = reader.current().place
        name = read_new_name(reader, columns)
        if len(columns) == MOST_COLUMNS:
            raise Fault(TOO_MANY, place)
        columns.append(name)
    reader.expect(")")
    reader.expect(";")
    return columns


def read_new_name(reader, earlier):
    place = reader.current().place
    name = reader.take_name()
    if name in earlier:
        raise Fault(WRONG_WORD, place)
    return name


def read_group(reader, sheet):
    reader.expect("row")
    cells = read_cells(reader, sheet)
    reader.expect("times")
    rows = reader.take_number(1, MOST_ROWS)
    reader.expect(";")
    return Group(cells, rows)


def read_cells(reader, sheet):
    place = reader.current().place
    cells = [reader.take_number(0, HIGHEST_VALUE)]
    while len(cells) < len(sheet.columns):
        reader.expect(",")
        cells.append(reader.take_number(0, HIGHEST_VALUE))
    if cells in [group.cells for group in sheet.groups]:
        raise Fault(WRONG_WORD, place)
    return cells


def read_question(reader, sheet):
    reader.expect("ask")
    question = Question(read_new_name(reader, [earlier.name for earlier in sheet.questions]))
    if reader.skip_if("where"):
        question.filters = read_filters(reader, sheet.columns)
    if reader.skip_if("by"):
        question.order = read_columns(reader, sheet.columns, [])
        question.backwards = reader.skip_if("back")
    if reader.skip_if("wants"):
        question.wanted = read_columns(reader, sheet.columns, [])
    if reader.skip_if("first"):
        question.limit = reader.take_number(1, HIGHEST_LIMIT)
    if reader.skip_if("times"):
        question.times = reader.take_number(0, MOST_TIMES)
    reader.expect(";")
    return question


def read_index(reader, sheet):
    reader.expect("index")
    name = read_new_name(reader, [earlier.name for earlier in sheet.indexes])
    reader.expect("on")
    index = Index(name, read_columns(reader, sheet.columns, []))
    if reader.skip_if("with"):
        index.included = read_columns(reader, sheet.columns, index.key_columns)
    if reader.skip_if("only"):
        index.condition = read_filter(reader, sheet.columns)
    reader.expect(";")
    return index


def read_columns(reader, names, taken):
    columns = [read_column(reader, names, taken)]
    while reader.skip_if(","):
        columns.append(read_column(reader, names, taken + columns))
    return columns


def read_column(reader, names, taken):
    place = reader.current().place
    name = reader.take_name()
    if name not in names:
        raise Fault(WRONG_WORD, place)
    column = names.index(name)
    if column in taken:
        raise Fault(WRONG_WORD, place)
    return column


# A column's second filter is told only behind its last token: a fault within it comes first.
def read_filters(reader, names):
    filters = [read_filter(reader, names)]
    while reader.skip_if("and"):
        place = reader.current().place
        sieve = read_filter(reader, names)
        if sieve.column in [earlier.column for earlier in filters]:
            raise Fault(WRONG_WORD, place)
        filters.append(sieve)
    return filters


def read_filter(reader, names):
    column = read_column(reader, names, [])
    if reader.skip_if("="):
        value = reader.take_number(0, HIGHEST_VALUE)
        return Filter(column, value, value)
    reader.expect("from")
    low = reader.take_number(0, HIGHEST_VALUE)
    reader.expect("to")
    high = reader.take_number(low, HIGHEST_VALUE)
    return Filter(column, low, high)
