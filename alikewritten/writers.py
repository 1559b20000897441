"""What a writer is, what it writes, and how a text is read back."""

from alikewritten.errors import NoSign, NoWriter
from alikewritten.ways import least_way

MOST_SIGNS = 4
MOST_STATES = 6
MOST_LETTERS = 8
LETTERS = "abcd"


def written(writer, message):
    check_writer(writer)
    check_message(writer, message)
    onward = run(writer, 0, message)
    return onward[0] + writer[2][onward[1]]


def run(writer, start, message):
    state = start
    words = []
    for sign in message:
        step = writer[1][state][sign]
        words.append(step[0])
        state = step[1]
    return ("".join(words), state)


# A place is a state and how many signs of the text are written on coming there:
# these are few, though messages with empty words go on without end.
def read_back(writer, text):
    check_writer(writer)

    def steps(place):
        return reading_steps(writer, text, place)

    def is_end(place):
        return text[place[1]:] == writer[2][place[0]]

    return least_way((0, 0), steps, is_end)


def reading_steps(writer, text, place):
    done = place[1]
    steps = []
    for sign, step in enumerate(writer[1][place[0]]):
        if text.startswith(step[0], done):
            steps.append((sign, (step[1], done + len(step[0]))))
    return steps


def check_writer(writer):
    if not is_writer(writer):
        raise NoWriter("this is no writer")


def check_message(writer, message):
    for sign in message:
        if not is_number(sign, 0, writer[0] - 1):
            raise NoSign("the message has a number that is no sign of the writer")


def is_writer(thing):
    if not is_tuple(thing, 3, 3):
        return False
    signs = thing[0]
    rows = thing[1]
    endings = thing[2]
    if not is_number(signs, 1, MOST_SIGNS) or not is_tuple(rows, 1, MOST_STATES):
        return False
    states = len(rows)
    if not is_tuple(endings, states, states):
        return False
    return all([is_row(row, signs, states) for row in rows]) and all([is_word(word) for word in endings])


def is_row(thing, signs, states):
    return is_tuple(thing, signs, signs) and all([is_step(step, states) for step in thing])


def is_step(thing, states):
    return is_tuple(thing, 2, 2) and is_word(thing[0]) and is_number(thing[1], 0, states - 1)


def is_word(thing):
    return isinstance(thing, str) and len(thing) <= MOST_LETTERS and all([letter in LETTERS for letter in thing])


def is_number(thing, least, most):
    return isinstance(thing, int) and least <= thing <= most


def is_tuple(thing, least, most):
    return isinstance(thing, tuple) and least <= len(thing) <= most
