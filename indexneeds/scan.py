"""From a text's bytes to its tokens."""

from indexneeds.faults import Fault, NO_TOKEN

WORD = "word"
NUMBER = "number"
SIGN = "sign"
END = "end"

LETTERS = "abcdefghijklmnopqrstuvwxyz"
LETTER_A = 97
LETTER_Z = 122
DIGIT_0 = 48
DIGIT_9 = 57
BLANKS = (32, 10)
SIGNS = {40: "(", 41: ")", 44: ",", 59: ";", 61: "="}
LONGEST_RUN = 7


# Numbers and the text's end have an empty spelling, so that they never pass for a word or a sign.
class Token:
    def __init__(self, kind, spelling, number, place, end):
        self.kind = kind
        self.spelling = spelling
        self.number = number
        self.place = place
        self.end = end


# The whole text is scanned before any of it is read, because fault 1 counts ahead of all others.
def tokens_of(text):
    tokens = []
    place = 0
    while place < len(text):
        if text[place] in BLANKS:
            place += 1
        else:
            token = token_at(text, place)
            tokens.append(token)
            place = token.end
    tokens.append(Token(END, "", 0, len(text), len(text)))
    return tokens


def token_at(text, place):
    byte = text[place]
    if LETTER_A <= byte <= LETTER_Z:
        return word_at(text, place)
    if DIGIT_0 <= byte <= DIGIT_9:
        return number_at(text, place)
    if byte in SIGNS:
        return Token(SIGN, SIGNS[byte], 0, place, place + 1)
    raise Fault(NO_TOKEN, place)


def word_at(text, place):
    end = run_end(text, place, LETTER_A, LETTER_Z)
    spelling = "".join([LETTERS[byte - LETTER_A] for byte in text[place:end]])
    return Token(WORD, spelling, 0, place, end)


def number_at(text, place):
    end = run_end(text, place, DIGIT_0, DIGIT_9)
    if text[place] == DIGIT_0 and end > place + 1:
        raise Fault(NO_TOKEN, place)
    number = 0
    for byte in text[place:end]:
        number = number * 10 + byte - DIGIT_0
    return Token(NUMBER, "", number, place, end)


def run_end(text, place, lowest, highest):
    end = place
    while end < len(text) and lowest <= text[end] <= highest:
        end += 1
    if end - place > LONGEST_RUN:
        raise Fault(NO_TOKEN, place)
    return end
