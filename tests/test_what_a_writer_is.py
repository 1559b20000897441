"""Promise 2, by each function that takes a writer."""

import unittest

from alikewritten.alike import alike
from alikewritten.errors import NoWriter
from alikewritten.notes import shown
from alikewritten.pieces import with_piece
from alikewritten.two import joined, parted
from alikewritten.writers import read_back, written
from helpers import fullest_writer


def beside(writer):
    """A writer with as many signs, where that can be."""
    signs = writer[0] if writer and writer[0] in (1, 2, 3, 4) else 2
    return (signs, ((("a", 0),) * signs,), ("",))


# With these before and behind it, whatever is a writer has room when it is joined.
ONE_LETTER = (1, ((("a", 0),),), ("",))
EACH_LETTER = (4, ((("a", 0), ("b", 0), ("c", 0), ("d", 0)),), ("",))

TAKERS = {
    "written": lambda writer: written(writer, []),
    "read_back": lambda writer: read_back(writer, ""),
    "alike": lambda writer: alike(writer),
    "with_piece": lambda writer: with_piece(writer, "a"),
    "parted, as the first": lambda writer: parted(writer, beside(writer)),
    "parted, as the second": lambda writer: parted(beside(writer), writer),
    "parted, as both": lambda writer: parted(writer, writer),
    "joined, as the first": lambda writer: joined(writer, EACH_LETTER),
    "joined, as the second": lambda writer: joined(ONE_LETTER, writer),
    "shown": lambda writer: shown(writer),
}


def one_state(signs):
    letters = "abcda"
    return (signs, (tuple((letters[sign], 0) for sign in range(signs)),), ("",))


def many_states(states):
    """One sign; each state goes to the next one, the last to itself."""
    rows = tuple(((("a", min(state + 1, states - 1)),)) for state in range(states))
    return (1, rows, ("",) * states)


def with_word(word):
    return (2, ((("a", 0), (word, 1)), (("b", 0), ("c", 1))), ("", "d"))


def with_ending(ending):
    return (2, ((("a", 0), ("b", 1)), (("b", 0), ("c", 1))), ("", ending))


def with_next_state(state):
    return (2, ((("a", 0), ("b", 1)), (("b", 0), ("c", state))), ("", "d"))


TAKEN = {
    "1 sign": one_state(1),
    "2 signs": one_state(2),
    "3 signs": one_state(3),
    "4 signs": one_state(4),
    "1 state": many_states(1),
    "2 states": many_states(2),
    "5 states": many_states(5),
    "6 states": many_states(6),
    "a word of no letters": with_word(""),
    "a word of 8 letters": with_word("abcdabcd"),
    "an ending of no letters": with_ending(""),
    "an ending of 8 letters": with_ending("dddddddd"),
    "next state 0": with_next_state(0),
    "the last state as the next": with_next_state(1),
    "every upper edge": fullest_writer(),
}

ROW = (("a", 0), ("b", 1))
OTHER_ROW = (("b", 0), ("c", 1))

REFUSED = {
    "nothing in it": (),
    "a tuple of two": (2, (ROW, OTHER_ROW)),
    "a tuple of four": (2, (ROW, OTHER_ROW), ("", ""), ("", "")),
    "0 signs": (0, ((),), ("",)),
    "0 signs, with pairs": (0, (ROW, OTHER_ROW), ("", "")),
    "-1 signs": (-1, ((),), ("",)),
    "5 signs": one_state(5),
    "no state": (2, (), ()),
    "no state, with an ending": (2, (), ("",)),
    "7 states": many_states(7),
    "an ending too few": (2, (ROW, OTHER_ROW), ("",)),
    "an ending too many": (2, (ROW, OTHER_ROW), ("", "", "")),
    "no ending": (2, (ROW, OTHER_ROW), ()),
    "a pair too few in the first row": (2, (ROW[:1], OTHER_ROW), ("", "")),
    "a pair too few in the last row": (2, (ROW, OTHER_ROW[:1]), ("", "")),
    "a pair too many in the first row": (2, (ROW + ROW[:1], OTHER_ROW), ("", "")),
    "a pair too many in the last row": (2, (ROW, OTHER_ROW + ROW[:1]), ("", "")),
    "an empty row": (2, (ROW, ()), ("", "")),
    "more signs than pairs": (3, (ROW, OTHER_ROW), ("", "")),
    "fewer signs than pairs": (1, (ROW, OTHER_ROW), ("", "")),
    "a pair of one": (2, (ROW, (("b", 0), ("c",))), ("", "")),
    "a pair of three": (2, (ROW, (("b", 0), ("c", 1, 1))), ("", "")),
    "next state -1": with_next_state(-1),
    "as many as there are states": with_next_state(2),
    "next state 6": with_next_state(6),
    "next state 1 of one state": (1, ((("a", 1),),), ("",)),
    "a word of 9 letters": with_word("abcdabcda"),
    "an ending of 9 letters": with_ending("ddddddddd"),
    "the first ending of 9 letters": (2, (ROW, OTHER_ROW), ("ddddddddd", "")),
}
for other in ("e", "A", "D", "`", " ", "-", "\n", "1", "\u00e4", "abce", "ea"):
    REFUSED[f"a word {other!r}"] = with_word(other)
    REFUSED[f"an ending {other!r}"] = with_ending(other)
    REFUSED[f"the first ending {other!r}"] = (2, (ROW, OTHER_ROW), (other, ""))


class WhatAWriterIs(unittest.TestCase):
    def test_what_is_a_writer_is_taken(self):
        for name, writer in TAKEN.items():
            for taker, call in TAKERS.items():
                with self.subTest(name, taker=taker):
                    call(writer)

    def test_what_is_no_writer_is_refused(self):
        for name, writer in REFUSED.items():
            for taker, call in TAKERS.items():
                with self.subTest(name, taker=taker):
                    self.assertRaises(NoWriter, call, writer)

    def test_a_fault_in_a_state_that_is_never_come_to_is_refused_too(self):
        writer = (1, ((("a", 0),), (("e", 0),)), ("", ""))
        for taker, call in TAKERS.items():
            with self.subTest(taker):
                self.assertRaises(NoWriter, call, writer)

    def test_the_edges_are_written_as_told(self):
        self.assertEqual(written(one_state(4), [0, 1, 2, 3]), "abcd")
        self.assertEqual(written(many_states(6), [0] * 7), "aaaaaaa")
        self.assertEqual(written(with_word("abcdabcd"), [1, 1]), "abcdabcdcd")
        self.assertEqual(written(with_ending("dddddddd"), [1]), "bdddddddd")
        self.assertEqual(written(fullest_writer(), [0, 1, 2]), "abcdabcdbbbbbbbbcccccccc")


if __name__ == "__main__":
    unittest.main()
