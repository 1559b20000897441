"""Promise 8, and what promise 1 says of the list that is told."""

import itertools
import unittest

from alikewritten.errors import NoWriter, OtherSigns
from alikewritten.two import parted
from alikewritten.writers import written
from helpers import (
    LETTER_BY_LETTER, WANDERER, first_message, fullest_writer, late_and_early, renumbered, some_writers, write_plainly,
)

NO_WRITER = (2, ((("a", 0), ("e", 0)),), ("",))


def one_state(words, ending=""):
    return (len(words), (tuple((word, 0) for word in words),), (ending,))


def counting(words, endings):
    """One sign; each state goes to the next one, the last to itself."""
    last = len(words) - 1
    return (1, tuple(((word, min(state + 1, last)),) for state, word in enumerate(words)), tuple(endings))


def lock(key, ending):
    """Six states; the last one, with this ending, is come to by the key alone, another sign leads back to the first."""
    rows = tuple(tuple(("a", state + 1 if sign == key[state] else 0) for sign in range(2)) for state in range(5))
    return (2, rows + ((("a", 0), ("a", 0)),), ("b",) * 5 + (ending,))


LATE_AND_EARLY = [late_and_early(signs, states, seed) for signs in (1, 2, 3) for states in (2, 3, 6) for seed in range(8)]

SAME = {
    "a letter one sign later": (
        (1, ((("a", 1),), (("b", 1),)), ("", "")),
        (1, ((("", 1),), (("ab", 2),), (("b", 2),)), ("", "a", "")),
    ),
    "a letter one sign earlier, all along": (
        (1, ((("ab", 1),), (("ab", 1),)), ("", "")),
        (1, ((("a", 1),), (("ba", 1),)), ("", "b")),
    ),
    "eight letters behind": (
        (1, ((("aaaaaaaa", 1),), (("aaaaaaaa", 1),)), ("", "")),
        (1, ((("", 1),), (("aaaaaaaa", 1),)), ("", "aaaaaaaa")),
    ),
    "eight letters ahead, in the first one": (
        (1, ((("abcdabcd", 1),), (("dddddddd", 1),)), ("cccccccc", "")),
        (1, ((("abcd", 1),), (("abcddddd", 2),), (("dddddddd", 2),)), ("cccccccc", "abcd", "dddd")),
    ),
    "unlike numbers of states": (
        one_state(("a", "b"), "c"),
        (2, ((("a", 1), ("b", 0)), (("a", 0), ("b", 1))), ("c", "c")),
    ),
    "unlike only where it is never come to": (
        (1, ((("a", 0),), (("b", 0),)), ("", "c")),
        (1, ((("a", 0),), (("d", 1),)), ("", "")),
    ),
    "nothing at all": (one_state(("", "")), (2, ((("", 1), ("", 0)), (("", 1), ("", 0))), ("", ""))),
}

# Each with how many signs the told message has, worked out by hand.
UNLIKE = {
    "the empty message": (one_state(("a",), "a"), one_state(("a",), "b"), 0),
    "an ending longer than the other": (one_state(("a",), "a"), one_state(("a",), "aa"), 0),
    "an ending and none": (one_state(("a",), "a"), one_state(("a",)), 0),
    "a word": (one_state(("a",)), one_state(("b",)), 1),
    "a word that begins the other": (one_state(("a", "b")), one_state(("a", "ba")), 1),
    "an empty word": (one_state(("a", "")), one_state(("a", "b")), 1),
    "words the same together, in another order": (one_state(("a", "aa")), one_state(("aa", "a")), 1),
    "the second sign": (counting("ab", ("", "")), counting("aa", ("", "")), 2),
    "an ending behind a sign": (counting("aa", ("", "b")), counting("aa", ("", "")), 1),
    "a lag that an ending fills once": (counting("aa", ("", "")), counting(("", "a"), ("", "aa")), 1),
    "a lag that grows": (
        counting(("aa", "aa"), ("", "")),
        counting(("a", "a", "a"), ("", "a", "aa")),
        3,
    ),
    "a lag of another letter": (
        counting(("ab", "ab"), ("", "")),
        counting(("a", "ba", "aa"), ("", "b", "b")),
        3,
    ),
    "alike but for the last of six states": (counting("aaaaaa", ("",) * 6), counting("aaaaab", ("",) * 6), 6),
    "the ending of the last of six states": (counting("aaaaaa", ("",) * 5 + ("b",)), counting("aaaaaa", ("",) * 6), 5),
    "rounds of five and six": (
        (1, tuple((("a", (state + 1) % 5),) for state in range(5)), ("", "", "", "", "b")),
        (1, tuple((("a", (state + 1) % 6),) for state in range(6)), ("", "", "", "", "b", "")),
        9,
    ),
    "by one message of five signs alone": (lock((1, 0, 0, 1, 1), "c"), lock((1, 0, 0, 1, 1), "b"), 5),
    "the one key or the other": (lock((0, 0, 0, 0, 0), "c"), lock((0, 0, 0, 0, 1), "c"), 5),
    "the upper edges": (fullest_writer(), (4, fullest_writer()[1], ("cccccccc",) * 5 + ("ccccccc",)), 1),
}


class HoldsAMessage(unittest.TestCase):
    def hold(self, first, second, told):
        """What holds of any told message."""
        self.assertIs(type(told), list, (first, second))
        self.assertNotEqual(write_plainly(first, told), write_plainly(second, told), (first, second))
        self.assertNotEqual(written(first, told), written(second, told), (first, second))

    def hold_against_a_plain_search(self, first, second, length):
        """All messages of at most so many signs are tried."""
        told = parted(first, second)
        found = first_message(
            first[0], length, lambda message: write_plainly(first, message) != write_plainly(second, message)
        )
        if told is None:
            self.assertIsNone(found, (first, second))
            return
        self.hold(first, second, told)
        if found is not None:
            self.assertEqual(len(told), len(found), (first, second))
        else:
            self.assertGreater(len(told), length, (first, second))


class Parted(HoldsAMessage):
    def test_the_same_in_what_they_write(self):
        for name, (first, second) in SAME.items():
            with self.subTest(name):
                self.assertIsNone(parted(first, second))
                self.assertIsNone(parted(second, first))

    def test_written_unlike(self):
        for name, (first, second, signs) in UNLIKE.items():
            for one, other in ((first, second), (second, first)):
                with self.subTest(name):
                    told = parted(one, other)
                    self.hold(one, other, told)
                    self.assertEqual(len(told), signs)

    def test_a_writer_beside_itself(self):
        for writer in (LETTER_BY_LETTER, WANDERER, fullest_writer()):
            self.assertIsNone(parted(writer, writer))
        for writer in some_writers(60, 3, 6, ("", "a", "b", "ab", "abcdabcd"), 81):
            self.assertIsNone(parted(writer, writer))

    def test_a_writer_beside_one_with_its_states_renumbered(self):
        for order in itertools.permutations((1, 2)):
            self.assertIsNone(parted(WANDERER, renumbered(WANDERER, (0,) + order)))
        for writer in some_writers(20, 3, 4, ("", "a", "b", "ab", "abcdabcd"), 82):
            for order in itertools.permutations((1, 2, 3)):
                self.assertIsNone(parted(writer, renumbered(writer, (0,) + order)))

    def test_letters_written_a_sign_earlier_or_later(self):
        unlike_words = 0
        for late, early in LATE_AND_EARLY:
            unlike_words += late != early
            self.assertIsNone(parted(late, early), (late, early))
            self.assertIsNone(parted(early, late), (late, early))
            order = (0,) + tuple(range(len(late[1]) - 1, 0, -1))
            self.assertIsNone(parted(renumbered(late, order), early), (late, early))
        self.assertGreater(unlike_words, 40)


class AgainstAPlainSearch(HoldsAMessage):
    # Where two are not unlike yet, their states tell how far one is ahead: so no shortest message
    # has more signs than there are pairs of states, and None is proven where that many are tried.
    def test_two_states_all_signs_tried_that_there_can_be(self):
        writers = some_writers(40, 2, 2, ("", "a", "aa"), 83)
        for first, second in itertools.product(writers, repeat=2):
            self.hold_against_a_plain_search(first, second, 4)

    def test_one_sign_all_signs_tried_that_there_can_be(self):
        writers = some_writers(40, 1, 5, ("", "a"), 84) + some_writers(40, 1, 6, ("a",), 84)
        for first, second in itertools.combinations(writers, 2):
            self.hold_against_a_plain_search(first, second, 30)

    def test_late_and_early_with_one_place_changed(self):
        for late, early in LATE_AND_EARLY:
            for changed in self.with_one_change(early):
                self.hold_against_a_plain_search(late, changed, 9 if late[0] < 3 else 5)

    def with_one_change(self, writer):
        signs, rows, endings = writer
        for state in range(len(rows)):
            yield (signs, rows, endings[:state] + (endings[state] + "a",) + endings[state + 1:])
            word, following = rows[state][0]
            for pair in ((word + "b", following), (word, (following + 1) % len(rows))):
                yield (signs, rows[:state] + ((pair,) + rows[state][1:],) + rows[state + 1:], endings)

    def test_four_signs(self):
        writers = some_writers(12, 4, 2, ("", "a", "aa"), 85)
        for first, second in itertools.product(writers, repeat=2):
            self.hold_against_a_plain_search(first, second, 4)


class Refused(unittest.TestCase):
    def test_unlike_counts_of_signs(self):
        for signs, other in itertools.product((1, 2, 3, 4), repeat=2):
            first = one_state(("a",) * signs)
            second = one_state(("a",) * other)
            with self.subTest(signs=signs, other=other):
                if signs == other:
                    self.assertIsNone(parted(first, second))
                else:
                    self.assertRaises(OtherSigns, parted, first, second)

    def test_unlike_counts_of_signs_are_refused_where_the_empty_message_is_written_unlike(self):
        self.assertRaises(OtherSigns, parted, one_state(("a",), "a"), one_state(("a", "b"), "b"))

    def test_no_writer_is_ahead_of_other_signs(self):
        three = one_state(("a", "b", "c"))
        self.assertRaises(NoWriter, parted, NO_WRITER, three)
        self.assertRaises(NoWriter, parted, three, NO_WRITER)
        self.assertRaises(NoWriter, parted, (5, three[1], three[2]), three)
        self.assertRaises(NoWriter, parted, three, (5, three[1], three[2]))

    def test_no_writer_beside_itself_is_refused(self):
        self.assertRaises(NoWriter, parted, NO_WRITER, NO_WRITER)


class WhatIsToldIsTheAskersOwn(unittest.TestCase):
    def test_a_list_that_was_changed_changes_no_later_answer(self):
        for name, (first, second, signs) in UNLIKE.items():
            with self.subTest(name):
                told = parted(first, second)
                before = list(told)
                told.append(9)
                told.reverse()
                again = parted(first, second)
                self.assertEqual(again, before)
                self.assertIsNot(again, told)


if __name__ == "__main__":
    unittest.main()
