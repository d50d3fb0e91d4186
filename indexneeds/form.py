"""The one form of a text."""


def one_form(sheet):
    lines = [table_line(sheet.columns)]
    lines.extend([group_line(group) for group in sheet.groups])
    lines.extend([question_line(question, sheet.columns) for question in sheet.questions])
    lines.extend([index_line(index, sheet.columns) for index in sheet.indexes])
    return [ord(sign) for sign in "".join(lines)]


def table_line(names):
    columns = ", ".join(names)
    return f"table ({columns});\n"


def group_line(group):
    cells = ", ".join([str(cell) for cell in group.cells])
    rows = group.rows
    return f"row {cells} times {rows};\n"


def question_line(question, names):
    parts = ["ask", question.name]
    if question.filters:
        parts.append("where")
        parts.append(" and ".join([filter_words(sieve, names) for sieve in question.filters]))
    if question.order:
        parts.append("by")
        parts.append(column_words(question.order, names))
    if question.backwards:
        parts.append("back")
    if question.wanted:
        parts.append("wants")
        parts.append(column_words(question.wanted, names))
    if question.limit > 0:
        parts.append("first")
        parts.append(str(question.limit))
    parts.append("times")
    parts.append(str(question.times))
    return ended(parts)


def index_line(index, names):
    parts = ["index", index.name, "on", column_words(index.key_columns, names)]
    if index.included:
        parts.append("with")
        parts.append(column_words(index.included, names))
    if index.condition is not None:
        parts.append("only")
        parts.append(filter_words(index.condition, names))
    return ended(parts)


def ended(parts):
    line = " ".join(parts)
    return f"{line};\n"


def column_words(columns, names):
    return ", ".join([names[column] for column in columns])


def filter_words(sieve, names):
    name = names[sieve.column]
    low = sieve.low
    high = sieve.high
    if low == high:
        return f"{name} = {low}"
    return f"{name} from {low} to {high}"
