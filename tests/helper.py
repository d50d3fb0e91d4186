"""Writes calls as numbers, takes answers apart, and marks the place of a fault in a text."""

from indexneeds.desk import answers

FAR = 10 ** 18

SHOWN = [1]
TABLE = [2]


def load(text):
    data = list(text.encode("latin-1")) if isinstance(text, str) else list(text)
    return [0, len(data)] + data


def ask(question):
    return [3, question]


def index(number):
    return [4, number]


def count(filters):
    return [5, len(filters)] + filters


def split(column):
    return [6, column]


def answer(question):
    return [7, question]


def alone(question):
    return [8, question]


def implies(filters, one_more):
    return [9, len(filters)] + filters + [len(one_more)] + one_more


def serves(question):
    return [10, question]


def room(number):
    return [11, number]


def run(*calls):
    given = answers([number for call in calls for number in call])
    apart = []
    place = 0
    while place < len(given):
        length = given[place]
        apart.append(given[place + 1:place + 1 + length])
        place += 1 + length
    assert place == len(given) and len(apart) == len(calls), given
    return apart


def load_answer(text):
    return run(load(text))[0]


def marked(text):
    """The text without its one mark ^, and the mark's place."""
    assert text.count("^") == 1, text
    return text.replace("^", ""), text.index("^")


def form_of(text):
    answer = run(load(text), SHOWN)[1]
    assert answer[0] == len(answer) - 1, answer
    return bytes(answer[1:]).decode("ascii")
