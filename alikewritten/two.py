"""Two writers: a message that they write unlike, and both together as one."""

from alikewritten.errors import NoRoom, OtherSigns
from alikewritten.ways import least_way, without_shared
from alikewritten.writers import LETTERS, check_writer, is_writer, run


# A place is a state of each and what each has written that the other has not.
# A message may end anywhere, so where the two are not unlike yet, what one has
# ahead is no more than an ending, and there are only so many places.
def parted(first, second):
    check_writer(first)
    check_writer(second)
    if first[0] != second[0]:
        raise OtherSigns("the two writers have unlike counts of signs")

    def steps(place):
        return parting_steps(first, second, place)

    def is_end(place):
        return place[2][0] + first[2][place[0]] != place[2][1] + second[2][place[1]]

    return least_way((0, 0, ("", "")), steps, is_end)


def parting_steps(first, second, place):
    steps = []
    for sign in range(first[0]):
        step = first[1][place[0]][sign]
        other = second[1][place[1]][sign]
        rests = without_shared(place[2][0] + step[0], place[2][1] + other[0])
        steps.append((sign, (step[1], other[1], rests)))
    return steps


def joined(first, second):
    check_writer(first)
    check_writer(second)
    check_letters(first, second)
    rows = []
    endings = []
    for state in range(len(first[1])):
        for other in range(len(second[1])):
            rows.append(joined_row(first, second, state, other))
            endings.append(joined_ending(first, second, state, other))
    both = (first[0], tuple(rows), tuple(endings))
    # All but its size holds of it by how it is made, so what is no writer is too large.
    if not is_writer(both):
        raise NoRoom("both together have too many states, or too long a word or an ending")
    return both


def check_letters(first, second):
    taken = LETTERS[:second[0]]
    if not all([letter in taken for letter in all_letters(first)]):
        raise OtherSigns("the first writer has a letter that is no sign of the second one")


def all_letters(writer):
    words = list(writer[2])
    for row in writer[1]:
        words.extend([step[0] for step in row])
    return "".join(words)


def joined_row(first, second, state, other):
    pairs = []
    for step in first[1][state]:
        onward = run(second, other, as_message(step[0]))
        pairs.append((onward[0], step[1] * len(second[1]) + onward[1]))
    return tuple(pairs)


def joined_ending(first, second, state, other):
    onward = run(second, other, as_message(first[2][state]))
    return onward[0] + second[2][onward[1]]


def as_message(word):
    return [LETTERS.index(letter) for letter in word]
