"""A writer written down as a text, and read from it."""

from alikewritten.errors import NoNote
from alikewritten.writers import MOST_STATES, check_writer, is_writer

EMPTY = "-"


def shown(writer):
    check_writer(writer)
    lines = [shown_state(row, ending) for row, ending in zip(writer[1], writer[2])]
    return "\n".join(lines)


def shown_state(row, ending):
    parts = [shown_step(step) for step in row]
    return " ".join(parts + [shown_word(ending)])


def shown_step(step):
    word = shown_word(step[0])
    state = step[1]
    return f"{word}>{state}"


def shown_word(word):
    return EMPTY if word == "" else word


# Each part of the text is read to the one thing that is shown so, or to what no
# writer has: so it is a note just where what comes of it is a writer.
def read(text):
    lines = [line.split(" ") for line in text.split("\n")]
    rows = [read_row(parts[:-1]) for parts in lines]
    endings = [read_word(parts[-1]) for parts in lines]
    writer = (len(rows[0]), tuple(rows), tuple(endings))
    if not is_writer(writer):
        raise NoNote("this is no note of a writer")
    return writer


def read_row(parts):
    return tuple([read_step(part.partition(">")) for part in parts])


def read_step(halves):
    return (read_word(halves[0]), read_state(halves[2]))


def read_word(text):
    if text == EMPTY:
        return ""
    return None if text == "" else text


# Not by int, which takes leading zeros, signs and blanks too.
def read_state(text):
    for state in range(MOST_STATES):
        if text == str(state):
            return state
    return None
