"""Promise 5, and what promise 1 says of a list that is told."""

import unittest

from alikewritten.errors import NoWriter
from alikewritten.writers import read_back, written
from helpers import LETTER_BY_LETTER, WANDERER, fullest_writer, least_by_text, least_from_the_end, some_writers

# Each sign may write one a or two of them, or nothing at all.
ONES_AND_TWOS = (3, ((("a", 0), ("aa", 0), ("", 0)),), ("",))
ODD_SIGNS = [" ", "!", "\t", "\n", "~", "-", ">", ".", "*", "\\", "(", "[", "0", "e", "A", "`", "{"]


class LongMessages(unittest.TestCase):
    # assertEqual would take very long to show where two long lists differ.
    def hold_alike(self, told, asked):
        self.assertTrue(told == asked, f"told {told}, asked for {asked}")


class ReadBack(LongMessages):
    def test_written_by_no_message(self):
        for text in ("c", "abc", "ba" * 20 + "d", "e", "cab"):
            with self.subTest(text):
                self.assertIsNone(read_back(LETTER_BY_LETTER, text))

    def test_written_by_one_message(self):
        for message in ([], [0], [1], [0, 1, 1], [1] * 20):
            with self.subTest(message):
                self.assertEqual(read_back(LETTER_BY_LETTER, written(LETTER_BY_LETTER, message)), message)

    def test_only_the_whole_text_counts(self):
        writer = (2, ((("ab", 0), ("c", 0)),), ("d",))
        self.assertEqual(read_back(writer, "abcd"), [0, 1])
        for text in ("abc", "abcdd", "abcda", "a", "ad", "", "dab", "bcd"):
            with self.subTest(text):
                self.assertIsNone(read_back(writer, text))

    def test_of_unlike_lengths_the_shorter_one_is_told(self):
        self.assertEqual(read_back(ONES_AND_TWOS, "aa"), [1])
        self.assertEqual(read_back(ONES_AND_TWOS, "aaaa"), [1, 1])

    def test_a_shorter_one_is_less_though_its_first_sign_is_greater(self):
        writer = (2, ((("a", 0), ("aaa", 0)),), ("",))
        self.assertEqual(read_back(writer, "aaa"), [1])
        self.assertEqual(read_back(writer, "aaaa"), [0, 1])

    def test_of_one_length_the_first_place_decides(self):
        self.assertEqual(read_back(ONES_AND_TWOS, "aaa"), [0, 1])
        self.assertEqual(read_back(ONES_AND_TWOS, "aaaaa"), [0, 1, 1])
        same = (4, ((("b", 0), ("a", 0), ("a", 0), ("b", 0)),), ("",))
        self.assertEqual(read_back(same, "abab"), [1, 0, 1, 0])

    def test_of_one_length_the_first_place_decides_through_unlike_states(self):
        # [0, 1] and [1, 0] write the same by other states, with other words.
        writer = (
            2,
            ((("a", 1), ("ab", 2)), (("d", 1), ("bc", 1)), (("c", 2), ("d", 2))),
            ("", "", ""),
        )
        self.assertEqual(written(writer, [0, 1]), written(writer, [1, 0]))
        self.assertEqual(read_back(writer, "abc"), [0, 1])

    def test_of_one_length_a_last_sign_does_not_decide(self):
        # abc is written by [0, 2] through state 1 and by [1, 0] through state 2.
        writer = (
            3,
            (
                (("ab", 1), ("a", 2), ("d", 0)),
                (("d", 1), ("d", 1), ("c", 1)),
                (("bc", 2), ("d", 2), ("d", 2)),
            ),
            ("", "", ""),
        )
        self.assertEqual(read_back(writer, "abc"), [0, 2])

    def test_several_states_end_at_one_text(self):
        # Both [0] and [1] write ab, by unlike words and endings.
        writer = (2, ((("a", 1), ("ab", 2)), (("c", 1), ("d", 1)), (("c", 2), ("d", 2))), ("", "b", ""))
        self.assertEqual(read_back(writer, "ab"), [0])
        turned = (2, ((("ab", 2), ("a", 1)), (("c", 1), ("d", 1)), (("c", 2), ("d", 2))), ("", "b", ""))
        self.assertEqual(read_back(turned, "ab"), [0])

    def test_the_empty_text(self):
        self.assertEqual(read_back(LETTER_BY_LETTER, ""), [])
        self.assertEqual(read_back(ONES_AND_TWOS, ""), [])
        self.assertIsNone(read_back((1, ((("a", 0),),), ("b",)), ""))
        self.assertIsNone(read_back((1, ((("", 0),),), ("b",)), ""))

    def test_the_empty_text_behind_empty_words(self):
        writer = (2, ((("", 1), ("", 0)), (("", 0), ("", 2)), (("a", 2), ("", 0))), ("a", "b", ""))
        self.assertEqual(read_back(writer, ""), [0, 1])

    def test_empty_words_go_round_without_end_and_are_left(self):
        writer = (2, ((("", 1), ("", 0)), (("", 0), ("b", 1))), ("c", "d"))
        self.assertEqual(read_back(writer, "d"), [0])
        self.assertEqual(read_back(writer, "bbd"), [0, 1, 1])
        self.assertEqual(read_back(writer, "bc"), [0, 1, 0])
        self.assertIsNone(read_back(writer, "b"))
        self.assertIsNone(read_back(writer, "a"))

    def test_an_empty_word_needed_on_the_way(self):
        self.assertEqual(read_back(WANDERER, "aaac"), [0, 0, 0, 0, 0])
        self.assertEqual(read_back(WANDERER, "dddac"), [1, 0, 1, 0])
        self.assertEqual(read_back(WANDERER, "abcab"), [0, 1, 0, 1])

    def test_an_ending_may_stand_for_words_too(self):
        writer = (1, ((("a", 0),),), ("aa",))
        self.assertEqual(read_back(writer, "aaaaa"), [0, 0, 0])
        self.assertIsNone(read_back(writer, "a"))

    def test_a_text_of_600_signs(self):
        self.hold_alike(read_back(LETTER_BY_LETTER, "ab" * 300), [0, 1] * 300)
        self.assertIsNone(read_back(LETTER_BY_LETTER, "a" * 599 + "c"))
        self.hold_alike(read_back(ONES_AND_TWOS, "a" * 600), [1] * 300)
        self.hold_alike(read_back(fullest_writer(), "b" * 592 + "c" * 8), [1] * 74)

    def test_a_text_of_600_signs_that_many_messages_write(self):
        row = (("a", 0), ("a", 1), ("", 1), ("aa", 0))
        writer = (4, (row, (("a", 1), ("a", 0), ("aaa", 0), ("", 1))), ("b", "c"))
        text = "a" * 599 + "c"
        self.hold_alike(read_back(writer, text), least_from_the_end(writer, text))
        self.assertIsNone(read_back(writer, "a" * 600))

    def test_a_text_of_more_than_600_signs_is_not_refused(self):
        self.hold_alike(read_back(LETTER_BY_LETTER, "b" * 601), [1] * 601)
        self.hold_alike(read_back(LETTER_BY_LETTER, "ab" * 1000), [0, 1] * 1000)

    def test_signs_that_are_no_letters(self):
        for sign in ODD_SIGNS:
            for text in (sign, "a" + sign, sign + "a", "a" + sign + "b", sign * 600):
                with self.subTest(text):
                    self.assertIsNone(read_back(LETTER_BY_LETTER, text))
                    self.assertIsNone(read_back(WANDERER, text))

    def test_no_writer_is_refused_whatever_the_text(self):
        for text in ("", "a", "e", " "):
            self.assertRaises(NoWriter, read_back, (0, ((),), ("",)), text)


class AgainstAPlainSearch(LongMessages):
    def hold(self, writer, length):
        least = least_by_text(writer, length)
        for text, message in least.items():
            self.assertEqual(read_back(writer, text), message, (writer, text))
            for other in (text + "a", text[1:], "b" + text):
                told = read_back(writer, other)
                if other in least:
                    self.assertEqual(told, least[other], (writer, other))
                elif told is not None:
                    self.assertGreater(len(told), length, (writer, other))
                    self.assertEqual(written(writer, told), other, (writer, other))

    def test_writers_of_several_states(self):
        for writer in some_writers(60, 2, 3, ("", "a", "b", "aa", "ab"), 51):
            self.hold(writer, 6)

    def test_writers_of_many_signs(self):
        for writer in some_writers(40, 4, 2, ("", "a", "aa", "aba"), 52):
            self.hold(writer, 3)

    def test_long_texts_against_a_reading_from_the_end(self):
        for writer in some_writers(30, 3, 6, ("", "a", "aa", "aaaaa", "b"), 53):
            for text in ("a" * 200, "a" * 100 + "b" + "a" * 99):
                self.hold_alike(read_back(writer, text), least_from_the_end(writer, text))


class WhatIsToldIsTheAskersOwn(unittest.TestCase):
    def test_a_list_that_was_changed_changes_no_later_answer(self):
        for text in ("", "abcab"):
            told = read_back(WANDERER, text)
            before = list(told)
            told.append(7)
            told.reverse()
            again = read_back(WANDERER, text)
            self.assertEqual(again, before)
            self.assertIsNot(again, told)

    def test_two_answers_are_not_one_and_the_same(self):
        self.assertIsNot(read_back(WANDERER, ""), read_back(WANDERER, ""))
        self.assertIsNot(read_back(WANDERER, "abcab"), read_back(WANDERER, "abcab"))

    def test_it_is_a_list(self):
        self.assertIs(type(read_back(WANDERER, "abcab")), list)
        self.assertIs(type(read_back(WANDERER, "")), list)


if __name__ == "__main__":
    unittest.main()
