"""Filters that are handed over as numbers, the rows that pass them, and what they say of one another."""

from indexneeds.sheet import Filter, HIGHEST_VALUE


# None stands for numbers that aren't whole a list of filters of unlike columns.
def filters_of(numbers, columns):
    if len(numbers) == 0:
        return None
    how_many = numbers[0]
    if not 0 <= how_many <= columns or len(numbers) != 1 + 3 * how_many:
        return None
    filters = []
    for start in range(1, len(numbers), 3):
        sieve = filter_of(numbers[start:start + 3], columns)
        if sieve is None or sieve.column in [earlier.column for earlier in filters]:
            return None
        filters.append(sieve)
    return filters


# None stands for numbers that aren't whole a filter.
def filter_of(numbers, columns):
    if len(numbers) != 3:
        return None
    sieve = Filter(numbers[0], numbers[1], numbers[2])
    return sieve if is_sound(sieve, columns) else None


def is_sound(sieve, columns):
    return 0 <= sieve.column < columns and 0 <= sieve.low <= sieve.high <= HIGHEST_VALUE


def rows_passing(groups, filters):
    return sum([group.rows for group in groups if passes_all(group, filters)])


def rows_split(groups, column):
    return [rows_passing(groups, [Filter(column, value, value)]) for value in range(HIGHEST_VALUE + 1)]


def passes_all(group, filters):
    return all([passes(group, sieve) for sieve in filters])


def passes(group, sieve):
    return sieve.low <= group.cells[sieve.column] <= sieve.high


def say(filters, sieve):
    return lets_all_pass(sieve) or any([is_within(given, sieve) for given in filters])


def lets_all_pass(sieve):
    return sieve.low == 0 and sieve.high == HIGHEST_VALUE


def is_within(narrow, wide):
    return narrow.column == wide.column and wide.low <= narrow.low and narrow.high <= wide.high


def say_in_table(groups, filters, sieve):
    return all([passes(group, sieve) for group in groups if passes_all(group, filters)])
