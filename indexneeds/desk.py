"""The calls on one object, and what they answer."""

from indexneeds.faults import Fault
from indexneeds.figures import index_numbers, question_numbers, table_numbers
from indexneeds.filters import filter_of, filters_of, rows_passing, rows_split, say, say_in_table
from indexneeds.form import one_form
from indexneeds.grammar import sheet_of
from indexneeds.line import Line
from indexneeds.parts import answered_parts
from indexneeds.serving import covers, entries_of, is_free_by, room_of, serves

LOAD = 0
SHOWN = 1
TABLE = 2
ASK = 3
INDEX = 4
COUNT = 5
SPLIT = 6
ANSWER = 7
ALONE = 8
IMPLIES = 9
SERVES = 10
ROOM = 11

LONGEST_TEXT = 1200


class Desk:
    def __init__(self):
        self.sheet = None


def answers(calls):
    desk = Desk()
    line = Line(calls)
    given = []
    while line.has_more():
        answer = answer_to(desk, line.next_call())
        given.append(len(answer))
        given.extend(answer)
    return given


def answer_to(desk, call):
    if call.kind == LOAD:
        return load(desk, call.rows[0])
    if desk.sheet is None:
        return [-8]
    return answer_from(desk.sheet, call)


def answer_from(sheet, call):
    if call.kind == SHOWN:
        return shown(sheet)
    if call.kind == TABLE:
        return table_numbers(sheet)
    if call.kind in (ASK, ANSWER, ALONE, SERVES):
        return about_question(sheet, call.kind, call.numbers[0])
    if call.kind in (INDEX, ROOM):
        return about_index(sheet, call.kind, call.numbers[0])
    if call.kind == SPLIT:
        return column_split(sheet, call.numbers[0])
    return about_filters(sheet, call)


def load(desk, text):
    if len(text) > LONGEST_TEXT:
        return [-1]
    try:
        sheet = sheet_of(text)
    except Fault as fault:
        return [1, fault.kind, fault.place]
    desk.sheet = sheet
    return [0, len(sheet.columns), len(sheet.groups), len(sheet.questions), len(sheet.indexes)]


def shown(sheet):
    form = one_form(sheet)
    return [len(form)] + form


def about_question(sheet, kind, number):
    if not 0 <= number < len(sheet.questions):
        return [-2]
    question = sheet.questions[number]
    if kind == ASK:
        return question_numbers(question)
    if kind == ANSWER:
        return rows_answered(sheet.groups, question)
    if kind == ALONE:
        return filters_alone(sheet.groups, question.filters)
    return indexes_serving(sheet.indexes, question)


def rows_answered(groups, question):
    parts = answered_parts(groups, question)
    numbers = [sum([part.rows for part in parts]), len(parts)]
    for part in parts:
        numbers.append(part.rows)
        numbers.extend(part.cells)
    return numbers


def filters_alone(groups, filters):
    return [rows_passing(groups, filters), len(filters)] + [rows_passing(groups, [sieve]) for sieve in filters]


def indexes_serving(indexes, question):
    serving = [number for number, index in enumerate(indexes) if serves(index, question)]
    numbers = [len(serving)]
    for number in serving:
        numbers.append(number)
        numbers.append(one_if(covers(indexes[number], question)))
        numbers.append(one_if(is_free_by(indexes[number], question)))
    return numbers


def about_index(sheet, kind, number):
    if not 0 <= number < len(sheet.indexes):
        return [-3]
    index = sheet.indexes[number]
    if kind == INDEX:
        return index_numbers(index)
    return [entries_of(index, sheet.groups), room_of(index, sheet.groups)]


def column_split(sheet, column):
    if not 0 <= column < len(sheet.columns):
        return [-5]
    return rows_split(sheet.groups, column)


def about_filters(sheet, call):
    filters = filters_of(call.rows[0], len(sheet.columns))
    if filters is None:
        return [-4]
    if call.kind == COUNT:
        return [rows_passing(sheet.groups, filters), rows_passing(sheet.groups, [])]
    sieve = filter_of(call.rows[1], len(sheet.columns))
    if sieve is None:
        return [-4]
    return [one_if(say(filters, sieve)), one_if(say_in_table(sheet.groups, filters, sieve))]


def one_if(holds):
    return 1 if holds else 0
