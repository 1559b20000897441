"""Promise 6, and what promise 1 says of the two lists that are told."""

import itertools
import unittest

from alikewritten.alike import alike
from alikewritten.writers import read_back, written
from helpers import LETTER_BY_LETTER, WANDERER, fewest_signs_alike, fullest_writer, some_writers, write_plainly


def one_state(words, ending=""):
    return (len(words), (tuple((word, 0) for word in words),), (ending,))


def words_up_to(letters, length):
    return ["".join(word) for size in range(length + 1) for word in itertools.product(letters, repeat=size)]


def two_rounds(offset, other_offset):
    """From state 0 into one of two rounds, which write 15 a in two signs and 23 a in three.

    Leaving a round tells which one it was, and so does an ending, but those behind
    whole rounds: only these can be written alike, where as many a stand in both.
    """
    rows = (
        (("a" * offset, 1), ("a" * other_offset, 3)),
        (("aaaaaaaa", 2), ("bc", 0)),
        (("aaaaaaa", 1), ("bc", 0)),
        (("aaaaaaaa", 4), ("bd", 0)),
        (("aaaaaaaa", 5), ("bd", 0)),
        (("aaaaaaa", 3), ("bd", 0)),
    )
    return (2, rows, ("c", "", "d", "", "dd", "ddd"))


def late_parting(words):
    """Five states that tell all signs apart, then one with these words."""
    rows = tuple(((("a", state + 1), ("b", state))) for state in range(5))
    return (2, rows + (((words[0], 5), (words[1], 5)),), ("",) * 5 + ("c",))


PLAIN = {
    "a letter for each sign": LETTER_BY_LETTER,
    "one sign": one_state(("a",)),
    "one sign with an ending": one_state(("a",), "a"),
    "four signs": one_state(("a", "b", "c", "d")),
    "no word begins another": one_state(("a", "ba", "bb")),
    "no word ends another": one_state(("a", "ab", "bb")),
    "told apart only at the end": one_state(("ab", "abb", "bb")),
    "told apart by the ending alone": (1, ((("", 1),), (("a", 1),)), ("b", "")),
    "an empty word that the next state tells": (
        2,
        ((("", 1), ("a", 0)), (("b", 0), ("c", 0))),
        ("", "d"),
    ),
    "words of eight letters": one_state(("aaaaaaaa", "aaaaaaab", "baaaaaaa", "dddddddd"), "cccccccc"),
    "two rounds that never meet": (
        2,
        (
            (("a", 1), ("", 2)),
            (("aaaaaaaa", 1), ("bc", 0)),
            (("aaaaaaaa", 2), ("bd", 0)),
        ),
        ("c", "", ""),
    ),
    "a state with like words that is never come to": (
        2,
        ((("a", 0), ("b", 0)), (("c", 1), ("c", 1))),
        ("", ""),
    ),
    "late, with words apart": late_parting(("a", "b")),
}

# Each with the fewest signs that two of its messages have together, worked out by hand.
NOT_PLAIN = {
    "an empty word": (one_state(("a", "")), 1),
    "nothing but empty words": (one_state(("",)), 1),
    "two like words": (one_state(("a", "b", "a")), 2),
    "two like words of four signs": (one_state(("a", "b", "c", "c")), 2),
    "one twice the other": (one_state(("aa", "a")), 3),
    "three of one for two of the other": (one_state(("aa", "aaa")), 4),
    "aba two ways": (one_state(("a", "ab", "ba")), 4),
    "seven and eight a": (one_state(("a" * 7, "a" * 8)), 4),
    "like words by unlike states": (
        (2, ((("a", 1), ("ab", 2)), (("b", 1), ("c", 1)), (("c", 2), ("d", 2))), ("", "", "")),
        3,
    ),
    "an ending for a word": ((1, ((("a", 1),), (("b", 1),)), ("ab", "b")), 1),
    "an ending for many words": (
        (1, ((("a", 1),), (("a", 2),), (("a", 3),), (("a", 4),), (("a", 4),)), ("aaaac", "b", "d", "bb", "c")),
        4,
    ),
    "endings told apart but two": (
        (2, ((("a", 1), ("ab", 2)), (("d", 1), ("c", 1)), (("d", 2), ("c", 2))), ("", "bd", "d")),
        2,
    ),
    "an empty word back to the state": ((1, ((("a", 1),), (("", 0),)), ("", "")), 3),
    "empty words two ways": (
        (2, ((("", 1), ("", 2)), (("a", 1), ("b", 1)), (("a", 2), ("c", 2))), ("", "d", "d")),
        2,
    ),
    "six states of empty words": (
        (1, ((("", 1),), (("", 2),), (("", 3),), (("", 4),), (("", 5),), (("", 0),)), ("", "a", "b", "c", "d", "aa")),
        6,
    ),
    "like words behind five signs": (late_parting(("a", "a")), 12),
    "words that make one another up behind five signs": (late_parting(("ab", "abab")), 13),
    "rounds that meet at once": (two_rounds(8, 0), 7),
    # 22 rounds of 15 a against 8 and 14 rounds of 23: 45 signs and 43.
    "rounds that meet behind many signs": (two_rounds(0, 8), 88),
    "the upper edges": (fullest_writer(), 1),
    "several states": (WANDERER, 2),
}


class HoldsAPair(unittest.TestCase):
    def hold(self, writer, told):
        """What holds of any told pair; gives back how many signs the two have together."""
        self.assertIs(type(told), tuple, writer)
        self.assertEqual([type(message) for message in told], [list, list], writer)
        self.assertNotEqual(told[0], told[1], writer)
        self.assertEqual(write_plainly(writer, told[0]), write_plainly(writer, told[1]), writer)
        self.assertEqual(written(writer, told[0]), written(writer, told[1]), writer)
        return len(told[0]) + len(told[1])

    def hold_against_a_plain_search(self, writer, length):
        """Two messages with at most so many signs together are each no longer than that."""
        told = alike(writer)
        found = fewest_signs_alike(writer, length)
        if told is None:
            self.assertIsNone(found, writer)
            return
        together = self.hold(writer, told)
        if together <= length:
            self.assertEqual(together, found, writer)
        elif found is not None:
            self.assertLessEqual(together, found, writer)


class Alike(HoldsAPair):
    def test_plain_writers(self):
        for name, writer in PLAIN.items():
            with self.subTest(name):
                self.assertIsNone(alike(writer))

    def test_writers_that_are_not_plain(self):
        for name, (writer, together) in NOT_PLAIN.items():
            with self.subTest(name):
                self.assertEqual(self.hold(writer, alike(writer)), together)

    def test_alike_only_by_their_endings(self):
        for name in ("an ending for a word", "an ending for many words", "endings told apart but two"):
            writer = NOT_PLAIN[name][0]
            with self.subTest(name):
                self.assertIsNotNone(alike(writer))
        rows = ((("a", 1),), (("b", 1),))
        self.assertIsNone(alike((1, rows, ("", ""))))
        self.assertIsNone(alike((1, rows, ("ab", "c"))))

    def test_a_message_told_may_be_read_back(self):
        for name, (writer, _) in NOT_PLAIN.items():
            for message in alike(writer):
                with self.subTest(name):
                    self.assertLessEqual(len(read_back(writer, written(writer, message))), len(message))


class AgainstAPlainSearch(HoldsAPair):
    def test_two_words_are_plain_but_where_their_order_is_all_one(self):
        words = words_up_to("ab", 3)
        for word in words:
            for other in words:
                writer = one_state((word, other), "b")
                with self.subTest(word=word, other=other):
                    self.assertEqual(alike(writer) is None, word + other != other + word)

    def test_one_state_and_two_signs(self):
        for words in itertools.product(words_up_to("ab", 3), repeat=2):
            self.hold_against_a_plain_search(one_state(words), 6)

    def test_one_state_and_three_signs(self):
        for words in itertools.combinations(words_up_to("ab", 3)[1:], 3):
            self.hold_against_a_plain_search(one_state(words, "a"), 5)

    def test_one_sign_and_several_states(self):
        for writer in some_writers(300, 1, 4, ("", "a", "b", "ab", "aab"), 61):
            self.hold_against_a_plain_search(writer, 12)

    def test_two_states(self):
        for writer in some_writers(300, 2, 2, ("a", "b", "ab", "ba", "abb"), 62):
            self.hold_against_a_plain_search(writer, 8)

    def test_two_states_with_empty_words(self):
        for writer in some_writers(200, 2, 2, ("", "a", "b", "ab", "c", "cab"), 63):
            self.hold_against_a_plain_search(writer, 7)

    def test_three_states_with_many_letters(self):
        for writer in some_writers(300, 2, 3, ("a", "b", "c", "d", "ab", "cd", "abc", "bcd", "abcd"), 64):
            self.hold_against_a_plain_search(writer, 8)

    def test_six_states(self):
        for writer in some_writers(200, 2, 6, ("a", "b", "ca", "d", "abcdabcd", "bcdabcda"), 65):
            self.hold_against_a_plain_search(writer, 8)


class WhatIsToldIsTheAskersOwn(unittest.TestCase):
    def test_the_two_lists_are_not_one_and_the_same(self):
        for name, (writer, _) in NOT_PLAIN.items():
            first, second = alike(writer)
            with self.subTest(name):
                self.assertIsNot(first, second)

    def test_a_list_that_was_changed_changes_no_later_answer(self):
        for name, (writer, _) in NOT_PLAIN.items():
            told = alike(writer)
            before = (list(told[0]), list(told[1]))
            told[0].append(9)
            told[1].clear()
            again = alike(writer)
            with self.subTest(name):
                self.assertEqual(again, before)
                for message in again:
                    self.assertIsNot(message, told[0])
                    self.assertIsNot(message, told[1])

    def test_a_change_of_one_list_leaves_the_other(self):
        first, second = alike(NOT_PLAIN["an empty word"][0])
        before = list(second)
        first.append(0)
        first.append(0)
        self.assertEqual(second, before)


if __name__ == "__main__":
    unittest.main()
