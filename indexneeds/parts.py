"""What a question answers, by counts: rows found, put together by their values in the order's columns."""

from indexneeds.filters import passes_all


class Part:
    def __init__(self, cells, rows):
        self.cells = cells
        self.rows = rows


def answered_parts(groups, question):
    parts = ordered_parts(groups, question)
    if question.limit == 0:
        return parts
    return up_to_limit(parts, question.limit)


def ordered_parts(groups, question):
    rows_by_cells = found_by_cells(groups, question)
    ordered = sorted(list(rows_by_cells))
    if question.backwards:
        ordered = list(reversed(ordered))
    return [Part(cells, rows_by_cells[cells]) for cells in ordered]


def found_by_cells(groups, question):
    rows_by_cells = {}
    for group in groups:
        if passes_all(group, question.filters):
            cells = tuple([group.cells[column] for column in question.order])
            rows_by_cells[cells] = rows_by_cells.get(cells, 0) + group.rows
    return rows_by_cells


def up_to_limit(parts, limit):
    answered = []
    missing = limit
    for part in parts:
        if missing == 0:
            break
        rows = min(part.rows, missing)
        answered.append(Part(part.cells, rows))
        missing -= rows
    return answered
