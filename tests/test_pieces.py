"""Promise 7, and what promise 1 says of the list that is told."""

import itertools
import unittest

from alikewritten.errors import NoPiece, NoWriter
from alikewritten.pieces import with_piece
from alikewritten.writers import written
from helpers import (
    LETTER_BY_LETTER, WANDERER, first_message, fullest_writer, some_pieces, some_writers, write_plainly,
)

NO_WRITER = (2, ((("a", 0), ("e", 0)),), ("",))
NO_PIECES = ("", "abcdabcda", "aaaaaaaaa", "a" * 600, "e", "A", "abe", "eab", "a b", " ", "-", "a\n", "\t", "~", "`", "1")


def slow_round(states):
    """One sign; the last state alone writes something, one a, and goes back to state 0."""
    rows = tuple((("", state + 1),) for state in range(states - 1)) + ((("a", 0),),)
    return (1, rows, ("",) * states)


# Each with a piece and how many signs the told message has, or None; worked out by hand.
BY_HAND = {
    "in one word": (LETTER_BY_LETTER, "a", 1),
    "over several words": (LETTER_BY_LETTER, "abba", 4),
    "over eight words": (LETTER_BY_LETTER, "abababab", 8),
    "a letter that is never written": (LETTER_BY_LETTER, "c", None),
    "a letter that is never written, behind others": (LETTER_BY_LETTER, "abac", None),
    "in the midst of a word": ((1, ((("dabcd", 0),),), ("",)), "abc", 1),
    "the end of a word and the beginning of the next": ((2, ((("da", 0), ("bc", 0)),), ("",)), "ab", 2),
    "a word between two others": ((2, ((("aab", 0), ("cd", 0)),), ("",)), "bcda", 3),
    "over words with empty ones between": (slow_round(3), "aa", 6),
    "as many signs as there can be": (slow_round(6), "aaaaaaaa", 48),
    "over a word and the ending": ((1, ((("a", 0),),), ("bc",)), "ab", 1),
    "over several words and the ending": ((1, ((("a", 0),),), ("bc",)), "aaabc", 3),
    "in an ending alone": ((1, ((("a", 1),), (("b", 2),), (("", 0),)), ("", "d", "abcd")), "bc", 2),
    "in the ending of the empty message": ((1, ((("a", 0),),), ("dbcd",)), "bc", 0),
    "the whole ending of the empty message": ((1, ((("a", 0),),), ("abcdabcd",)), "abcdabcd", 0),
    "an ending stands once, behind all words": ((1, ((("a", 0),),), ("b",)), "bb", None),
    "nothing stands behind an ending": ((1, ((("a", 0),),), ("b",)), "ba", None),
    "an ending beside another one": ((1, ((("", 1),), (("", 0),)), ("a", "b")), "ab", None),
    "nothing but empty words": ((2, ((("", 0), ("", 0)),), ("",)), "a", None),
    "a word of a state that is never come to": ((1, ((("a", 0),), (("b", 0),)), ("", "c")), "b", None),
    "an ending of a state that is never come to": ((1, ((("a", 0),), (("b", 0),)), ("", "c")), "c", None),
    "words that can't follow one another": ((2, ((("a", 1), ("b", 1)), (("c", 0), ("d", 0))), ("", "")), "ab", None),
    "a false beginning that holds the true one": ((2, ((("a", 0), ("b", 0)),), ("",)), "aab", 3),
    "a false beginning within one word": ((1, ((("aaab", 0),),), ("",)), "aab", 1),
    "begun anew within itself": ((1, ((("ab", 1),), (("a", 2),), (("bac", 2),)), ("", "", "")), "abac", 3),
    "words too long for what stands before": ((1, ((("aba", 1),), (("babb", 1),)), ("", "")), "ababb", 2),
    "in a word, though the ending has none": ((1, ((("abc", 0),),), ("d",)), "b", 1),
    "the shorter way is not the first one": (
        (2, ((("a", 0), ("", 1)), (("b", 1), ("aaa", 1))), ("", "")),
        "aaa",
        2,
    ),
    "the ending is nearer than the words": ((2, ((("a", 0), ("", 1)), (("", 1), ("", 1))), ("", "aaaa")), "aaaa", 1),
    "the words are nearer than the ending": ((1, ((("ab", 1),), (("c", 2),), (("c", 2),)), ("", "d", "ab")), "ab", 1),
    "the upper edges": (fullest_writer(), "dddddddd", 1),
    "the upper edges, in the ending": (fullest_writer(), "cccccccc", 0),
    "the upper edges, over two words": (fullest_writer(), "cdabcdbb", 2),
    "the upper edges, over a word and the ending": (fullest_writer(), "abcdcccc", 1),
    "the upper edges, avoided": (fullest_writer(), "ccccd", None),
    "several states": (WANDERER, "abcbcdd", 6),
    "several states, avoided": (WANDERER, "bb", None),
    "several states, over words and the ending": (WANDERER, "cab", 4),
}


class HoldsAMessage(unittest.TestCase):
    def hold(self, writer, piece, told):
        """What holds of any told message."""
        self.assertIs(type(told), list, (writer, piece))
        self.assertIn(piece, write_plainly(writer, told), (writer, piece))
        self.assertIn(piece, written(writer, told), (writer, piece))

    def hold_against_a_plain_search(self, writer, piece, length):
        """All messages of at most so many signs are tried."""
        told = with_piece(writer, piece)
        found = first_message(writer[0], length, lambda message: piece in write_plainly(writer, message))
        if told is None:
            self.assertIsNone(found, (writer, piece))
            return
        self.hold(writer, piece, told)
        if found is not None:
            self.assertEqual(len(told), len(found), (writer, piece))
        else:
            self.assertGreater(len(told), length, (writer, piece))


class WithPiece(HoldsAMessage):
    def test_worked_out_by_hand(self):
        for name, (writer, piece, signs) in BY_HAND.items():
            with self.subTest(name):
                told = with_piece(writer, piece)
                if signs is None:
                    self.assertIsNone(told)
                else:
                    self.hold(writer, piece, told)
                    self.assertEqual(len(told), signs)

    def test_one_letter_less_is_found_one_sign_earlier(self):
        for size in range(1, 9):
            self.assertEqual(with_piece(LETTER_BY_LETTER, "abbaabab"[:size]), [0, 1, 1, 0, 0, 1, 0, 1][:size])
            self.assertEqual(with_piece(slow_round(6), "a" * size), [0] * (6 * size))

    def test_each_piece_of_a_writing_is_found(self):
        text = write_plainly(WANDERER, [0, 1, 0, 1, 0, 0, 1, 0])
        for begin, end in itertools.combinations(range(len(text) + 1), 2):
            if end - begin <= 8:
                with self.subTest(text[begin:end]):
                    told = with_piece(WANDERER, text[begin:end])
                    self.hold(WANDERER, text[begin:end], told)
                    self.assertLessEqual(len(told), 8)


class AgainstAPlainSearch(HoldsAMessage):
    # A shortest way comes to no state twice with as much of the piece begun: so there are
    # at most as many signs as states times letters, and None is proven where that many are tried.
    def test_two_states_all_signs_tried_that_there_can_be(self):
        for writer in some_writers(60, 2, 2, ("", "a", "b", "ab", "aab"), 71):
            for piece in ("a", "b", "ab", "aa", "bab", "aab", "aba", "abab"):
                self.hold_against_a_plain_search(writer, piece, 2 * len(piece))

    def test_three_states_all_signs_tried_that_there_can_be(self):
        for writer in some_writers(40, 2, 3, ("", "a", "b", "ba", "abb"), 72):
            for piece in ("a", "ab", "bb", "aba", "bba"):
                self.hold_against_a_plain_search(writer, piece, 3 * len(piece))

    def test_one_sign_all_signs_tried_that_there_can_be(self):
        for writer in some_writers(60, 1, 6, ("", "a", "b", "ab", "aaaa"), 73):
            for piece in some_pieces(12, "ab", 8, 73) + ["aaaaaaaa", "abababab"]:
                self.hold_against_a_plain_search(writer, piece, 6 * len(piece))

    def test_four_signs_and_long_pieces(self):
        for writer in some_writers(30, 4, 3, ("", "a", "bc", "cab", "d", "abcdabcd"), 74):
            for piece in some_pieces(6, "abcd", 8, 74) + ["abcdabcd", "bccab", "dda"]:
                self.hold_against_a_plain_search(writer, piece, 4)

    def test_six_states(self):
        for writer in some_writers(40, 2, 6, ("", "a", "b", "aba", "bab"), 75):
            for piece in some_pieces(6, "ab", 8, 75):
                self.hold_against_a_plain_search(writer, piece, 7)


class Refused(unittest.TestCase):
    def test_what_is_no_piece(self):
        for writer in (LETTER_BY_LETTER, WANDERER, fullest_writer()):
            for piece in NO_PIECES:
                with self.subTest(piece):
                    self.assertRaises(NoPiece, with_piece, writer, piece)

    def test_each_other_sign_is_refused(self):
        for sign in ["\t", "\n"] + [chr(code) for code in range(32, 127)]:
            with self.subTest(sign):
                if sign in "abcd":
                    with_piece(LETTER_BY_LETTER, "a" + sign)
                else:
                    self.assertRaises(NoPiece, with_piece, LETTER_BY_LETTER, sign)
                    self.assertRaises(NoPiece, with_piece, LETTER_BY_LETTER, "a" + sign)
                    self.assertRaises(NoPiece, with_piece, LETTER_BY_LETTER, sign + "a")

    def test_eight_letters_are_a_piece_and_nine_are_none(self):
        writer = (1, ((("a", 0),),), ("",))
        self.assertEqual(with_piece(writer, "a" * 8), [0] * 8)
        self.assertRaises(NoPiece, with_piece, writer, "a" * 9)

    def test_no_writer_is_ahead_of_no_piece(self):
        for piece in ("a",) + NO_PIECES:
            with self.subTest(piece):
                self.assertRaises(NoWriter, with_piece, NO_WRITER, piece)


class WhatIsToldIsTheAskersOwn(unittest.TestCase):
    def test_a_list_that_was_changed_changes_no_later_answer(self):
        for name, (writer, piece, signs) in BY_HAND.items():
            if signs is not None:
                with self.subTest(name):
                    told = with_piece(writer, piece)
                    before = list(told)
                    told.append(9)
                    told.reverse()
                    again = with_piece(writer, piece)
                    self.assertEqual(again, before)
                    self.assertIsNot(again, told)


if __name__ == "__main__":
    unittest.main()
