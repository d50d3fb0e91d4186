"""Filters that are handed over as numbers, and the rows that pass them."""

from indexneeds.sheet import Filter, HIGHEST_VALUE


# None stands for numbers that aren't whole a list of filters of unlike columns.
def filters_of(numbers, columns):
    if len(numbers) == 0:
        return None
    how_many = numbers[0]
    if not 0 <= how_many <= columns or len(numbers) != 1 + 3 * how_many:
        return None
    filters = []
    for start in range(1, len(numbers), 3):
        sieve = Filter(numbers[start], numbers[start + 1], numbers[start + 2])
        if not is_sound(sieve, columns) or sieve.column in [earlier.column for earlier in filters]:
            return None
        filters.append(sieve)
    return filters


def is_sound(sieve, columns):
    return 0 <= sieve.column < columns and 0 <= sieve.low <= sieve.high <= HIGHEST_VALUE


def rows_passing(groups, filters):
    return sum([group.rows for group in groups if passes_all(group, filters)])


def passes_all(group, filters):
    return all([sieve.low <= group.cells[sieve.column] <= sieve.high for sieve in filters])
