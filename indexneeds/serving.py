"""Which questions an index serves, how well it does, and how much room it takes."""

from indexneeds.filters import is_within, rows_passing


# A condition that lets every value pass still asks for a filter of its column, unlike what filters say.
def serves(index, question):
    if index.condition is None:
        return True
    return any([is_within(sieve, index.condition) for sieve in question.filters])


def covers(index, question):
    own = columns_of(index)
    return all([column in own for column in needs_of(question)])


def columns_of(index):
    return index.key_columns + index.included


def needs_of(question):
    return [sieve.column for sieve in question.filters] + question.order + question.wanted


def is_free_by(index, question):
    fixed = [sieve.column for sieve in question.filters if sieve.low == sieve.high]
    order = [column for column in question.order if column not in fixed]
    loose_keys = [column for column in index.key_columns if column not in fixed]
    return loose_keys[:len(order)] == order


def entries_of(index, groups):
    conditions = [] if index.condition is None else [index.condition]
    return rows_passing(groups, conditions)


def room_of(index, groups):
    return entries_of(index, groups) * (1 + len(columns_of(index)))
