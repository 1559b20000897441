"""Writers that several tests use, and plain searches to hold answers against."""

import itertools
import random

# One state: sign 0 writes a, sign 1 writes b. Plain.
LETTER_BY_LETTER = (2, ((("a", 0), ("b", 0)),), ("",))

# Three states, with empty words and an ending for each state.
WANDERER = (
    2,
    (
        (("a", 1), ("", 2)),
        (("", 0), ("bc", 1)),
        (("ddd", 2), ("", 0)),
    ),
    ("", "c", "ab"),
)


def fullest_writer():
    """A writer at every upper edge: 4 signs, 6 states, words and endings of 8 letters."""
    row = (("abcdabcd", 0), ("bbbbbbbb", 5), ("", 0), ("dddddddd", 5))
    return (4, (row,) * 6, ("cccccccc",) * 6)


def messages_up_to(signs, length):
    """All messages of at most so many signs, the least first."""
    for size in range(length + 1):
        for message in itertools.product(range(signs), repeat=size):
            yield list(message)


def write_plainly(writer, message):
    """What the document says of writing, word for word, apart from the program."""
    signs, rows, endings = writer
    state, text = 0, ""
    for sign in message:
        word, following = rows[state][sign]
        text, state = text + word, following
    return text + endings[state]


def least_by_text(writer, length):
    """For each text that messages of at most so many signs write, the least of them."""
    least = {}
    for message in messages_up_to(writer[0], length):
        least.setdefault(write_plainly(writer, message), message)
    return least


def least_from_the_end(writer, text):
    """The least message that is written so, or None: signs are counted from the text's end, then the least taken."""
    signs, rows, endings = writer
    fewest = {(state, at): 0 for state, ending in enumerate(endings) for at in range(len(text) + 1) if text[at:] == ending}
    for at in range(len(text), -1, -1):
        for _ in rows:  # As often as there are states: so far an empty word may be from being settled.
            for state, row in enumerate(rows):
                for word, following in row:
                    behind = fewest.get((following, at + len(word)))
                    if behind is not None and text.startswith(word, at):
                        fewest[state, at] = min(fewest.get((state, at), behind + 1), behind + 1)
    if (0, 0) not in fewest:
        return None
    message, state, at = [], 0, 0
    while fewest[state, at] > 0:
        for sign, (word, following) in enumerate(rows[state]):
            goal = (following, at + len(word))
            if text.startswith(word, at) and fewest.get(goal) == fewest[state, at] - 1:
                message.append(sign)
                state, at = goal
                break
    return message


def fewest_signs_alike(writer, length):
    """The fewest signs that two unlike messages of at most so many signs each, written alike, have together."""
    shortest = {}
    fewest = None
    for message in messages_up_to(writer[0], length):
        text = write_plainly(writer, message)
        if text in shortest:
            together = shortest[text] + len(message)
            fewest = together if fewest is None else min(fewest, together)
        else:
            shortest[text] = len(message)
    return fewest


def some_writers(count, signs, states, words, seed):
    """So many writers of that size, the same ones each time."""
    chance = random.Random(seed)
    found = []
    for _ in range(count):
        rows = tuple(
            tuple((chance.choice(words), chance.randrange(states)) for _ in range(signs)) for _ in range(states)
        )
        found.append((signs, rows, tuple(chance.choice(words) for _ in range(states))))
    return found


def some_pieces(count, letters, longest, seed):
    """So many pieces of at most so many letters, the same ones each time."""
    chance = random.Random(seed)
    return ["".join(chance.choices(letters, k=chance.randint(1, longest))) for _ in range(count)]


def first_message(signs, length, holds):
    """The least message of at most so many signs of which that holds, or None."""
    for message in messages_up_to(signs, length):
        if holds(message):
            return message
    return None


def renumbered(writer, order):
    """The same writer with its states in this order; state 0 stays where it is."""
    signs, rows, endings = writer
    place = {state: at for at, state in enumerate(order)}
    turned = tuple(tuple((word, place[following]) for word, following in rows[state]) for state in order)
    return (signs, turned, tuple(endings[state] for state in order))


def late_and_early(signs, states, seed):
    """Two writers that write the same by unlike words: on leaving a state, or already on coming to it, a part is written."""
    chance = random.Random(seed)
    parts = [""] + [chance.choice(("", "a", "ab", "abc", "ba")) for _ in range(states - 1)]
    words = [[chance.choice(("", "a", "b", "ab", "c")) for _ in range(signs)] for _ in range(states)]
    goals = [[chance.randrange(states) for _ in range(signs)] for _ in range(states)]
    ends = [chance.choice(("", "a", "b", "ab")) for _ in range(states)]
    late, early = [], []
    for state in range(states):
        pairs = list(zip(words[state], goals[state]))
        late.append(tuple((parts[state] + word, goal) for word, goal in pairs))
        early.append(tuple((word + parts[goal], goal) for word, goal in pairs))
    late_ends = tuple(part + end for part, end in zip(parts, ends))
    return (signs, tuple(late), late_ends), (signs, tuple(early), tuple(ends))
