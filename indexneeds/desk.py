"""The calls on one object, and what they answer."""

from indexneeds.faults import Fault
from indexneeds.figures import index_numbers, question_numbers, table_numbers
from indexneeds.filters import filters_of, rows_passing
from indexneeds.form import one_form
from indexneeds.grammar import sheet_of
from indexneeds.line import Line

LOAD = 0
SHOWN = 1
TABLE = 2
ASK = 3
INDEX = 4

LONGEST_TEXT = 1200


class Desk:
    def __init__(self):
        self.sheet = None


def answers(calls):
    desk = Desk()
    line = Line(calls)
    given = []
    while line.has_more():
        answer = answer_to(desk, line.next_call())
        given.append(len(answer))
        given.extend(answer)
    return given


def answer_to(desk, call):
    if call.kind == LOAD:
        return load(desk, call.rows[0])
    if desk.sheet is None:
        return [-8]
    return answer_from(desk.sheet, call)


def answer_from(sheet, call):
    if call.kind == SHOWN:
        return shown(sheet)
    if call.kind == TABLE:
        return table_numbers(sheet)
    if call.kind == ASK:
        return ask(sheet, call.numbers[0])
    if call.kind == INDEX:
        return index_told(sheet, call.numbers[0])
    return rows_counted(sheet, call.rows[0])


def load(desk, text):
    if len(text) > LONGEST_TEXT:
        return [-1]
    try:
        sheet = sheet_of(text)
    except Fault as fault:
        return [1, fault.kind, fault.place]
    desk.sheet = sheet
    return [0, len(sheet.columns), len(sheet.groups), len(sheet.questions), len(sheet.indexes)]


def shown(sheet):
    form = one_form(sheet)
    return [len(form)] + form


def ask(sheet, number):
    if not 0 <= number < len(sheet.questions):
        return [-2]
    return question_numbers(sheet.questions[number])


def index_told(sheet, number):
    if not 0 <= number < len(sheet.indexes):
        return [-3]
    return index_numbers(sheet.indexes[number])


def rows_counted(sheet, numbers):
    filters = filters_of(numbers, len(sheet.columns))
    if filters is None:
        return [-4]
    return [rows_passing(sheet.groups, filters), rows_passing(sheet.groups, [])]
