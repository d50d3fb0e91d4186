"""A table, a question and an index as numbers."""


def table_numbers(sheet):
    numbers = [len(sheet.columns), len(sheet.groups)]
    for group in sheet.groups:
        numbers.extend(group.cells)
        numbers.append(group.rows)
    return numbers


def question_numbers(question):
    numbers = [len(question.filters)]
    for sieve in question.filters:
        numbers.extend(filter_numbers(sieve))
    numbers.extend(counted(question.order))
    numbers.append(1 if question.backwards else 0)
    numbers.extend(counted(question.wanted))
    numbers.append(question.limit)
    numbers.append(question.times)
    return numbers


def index_numbers(index):
    numbers = counted(index.key_columns) + counted(index.included)
    if index.condition is None:
        return numbers + [0]
    return numbers + [1] + filter_numbers(index.condition)


def filter_numbers(sieve):
    return [sieve.column, sieve.low, sieve.high]


def counted(columns):
    return [len(columns)] + columns
