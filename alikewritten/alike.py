"""Two unlike messages that a writer writes alike."""

from alikewritten.ways import least_way, without_shared
from alikewritten.writers import check_writer

# Two messages are followed side by side. A place is one of:
# - (TOGETHER, state): both have had the same signs so far;
# - (OWING, state, move): the first has made a move that the second has not;
# - (APART, states, rests): they are unlike, and each has written the same
#   but for its rest, which only one of the two has.
TOGETHER = "together"
OWING = "owing"
APART = "apart"


def alike(writer):
    check_writer(writer)

    def steps(place):
        return pair_steps(writer, place)

    def is_end(place):
        return place == (APART, (None, None), ("", ""))

    way = least_way((TOGETHER, 0), steps, is_end)
    if way is None:
        return None
    return (signs_of(way, 0), signs_of(way, 1))


def signs_of(way, side):
    return [mark[1] for mark in way if mark[0] == side and mark[1] is not None]


# A move is a sign, a word and the next state. To end is a move with None for a
# sign: each message has just one, so a way is as long as its signs and two more,
# and the shortest way has the fewest signs.
def moves(writer, state):
    row = writer[1][state]
    onward = [(sign, step[0], step[1]) for sign, step in enumerate(row)]
    return onward + [(None, writer[2][state], None)]


def pair_steps(writer, place):
    if place[0] == TOGETHER:
        return [((0, move[0]), (OWING, place[1], move)) for move in moves(writer, place[1])]
    if place[0] == OWING:
        return owing_steps(writer, place[1], place[2])
    return apart_steps(writer, place[1], place[2])


def owing_steps(writer, state, owed):
    steps = []
    for move in moves(writer, state):
        if move[0] != owed[0]:
            add_apart(steps, (1, move[0]), (owed[2], move[2]), (owed[1], move[1]))
        elif move[0] is not None:
            steps.append(((1, move[0]), (TOGETHER, move[2])))
    return steps


def apart_steps(writer, states, rests):
    side = side_behind(states, rests)
    steps = []
    if states[side] is None:
        return steps
    for move in moves(writer, states[side]):
        texts = with_side(rests, side, rests[side] + move[1])
        add_apart(steps, (side, move[0]), with_side(states, side, move[2]), texts)
    return steps


# It is always the one behind that moves on: so a rest is never more than the
# end of one word, and there are only so many places.
def side_behind(states, rests):
    if rests[0] != "":
        return 1
    if rests[1] != "":
        return 0
    return 1 if states[0] is None else 0


def with_side(pair, side, value):
    return (value, pair[1]) if side == 0 else (pair[0], value)


def add_apart(steps, mark, states, texts):
    rests = without_shared(texts[0], texts[1])
    if rests[0] == "" or rests[1] == "":
        steps.append((mark, (APART, states, rests)))
