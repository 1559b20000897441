"""Promises 3 and 4, and what promise 1 says of a message that is handed in."""

import unittest

from alikewritten.errors import NoSign, NoWriter
from alikewritten.writers import written
from helpers import LETTER_BY_LETTER, WANDERER, fullest_writer, messages_up_to, some_writers, write_plainly

NO_WRITER = (2, ((("a", 0), ("e", 0)),), ("",))


class Messages(unittest.TestCase):
    def test_the_empty_message_is_one(self):
        self.assertEqual(written(LETTER_BY_LETTER, []), "")

    def test_sixty_signs_are_taken(self):
        self.assertEqual(written(LETTER_BY_LETTER, [0, 1] * 30), "ab" * 30)

    def test_more_than_sixty_signs_are_not_refused(self):
        self.assertEqual(written(LETTER_BY_LETTER, [1] * 61), "b" * 61)
        self.assertEqual(written(LETTER_BY_LETTER, [0, 1] * 500), "ab" * 500)

    def test_the_first_and_the_last_sign_are_taken(self):
        self.assertEqual(written(fullest_writer(), [3]), "ddddddddcccccccc")
        self.assertEqual(written(fullest_writer(), [0]), "abcdabcdcccccccc")

    def test_another_number_is_refused(self):
        for number in (-1, -2, -3, 2, 3, 4, 100, -100):
            for message in ([number], [0, number], [number, 1], [0] * 59 + [number]):
                with self.subTest(message):
                    self.assertRaises(NoSign, written, LETTER_BY_LETTER, message)

    def test_the_count_of_signs_is_the_writers_own(self):
        for signs in (1, 2, 3, 4):
            writer = (signs, ((("a", 0),) * signs,), ("",))
            with self.subTest(signs):
                self.assertEqual(written(writer, [signs - 1]), "a")
                self.assertRaises(NoSign, written, writer, [signs])

    def test_no_writer_is_ahead_of_no_sign(self):
        for message in ([2], [-1], [0, 7]):
            with self.subTest(message):
                self.assertRaises(NoWriter, written, NO_WRITER, message)


class Writing(unittest.TestCase):
    def test_worked_out_by_hand(self):
        by_hand = (
            ([], ""),
            ([0], "ac"),
            ([1], "ab"),
            ([0, 0], "a"),
            ([0, 1], "abcc"),
            ([0, 1, 1, 0], "abcbc"),
            ([1, 0], "dddab"),
            ([1, 0, 0], "ddddddab"),
            ([1, 0, 1], "ddd"),
            ([1, 1], ""),
            ([1, 1, 0, 1, 0, 1], "abcab"),
            ([0, 0, 0, 0, 1, 1, 0], "aaac"),
        )
        for message, text in by_hand:
            with self.subTest(message):
                self.assertEqual(written(WANDERER, message), text)

    def test_the_first_state_is_state_0(self):
        writer = (1, ((("a", 0),), (("b", 1),)), ("c", "d"))
        self.assertEqual(written(writer, []), "c")
        self.assertEqual(written(writer, [0, 0]), "aac")

    def test_the_ending_is_that_of_the_last_state_and_stands_once(self):
        writer = (1, ((("a", 1),), (("b", 2),), (("c", 0),)), ("d", "dd", "ddd"))
        self.assertEqual([written(writer, [0] * size) for size in range(4)], ["d", "add", "abddd", "abcd"])

    def test_against_a_plain_way_of_writing(self):
        for writer in some_writers(40, 3, 4, ("", "a", "bd", "cab", "abcdabcd"), 4):
            for message in messages_up_to(3, 4):
                self.assertEqual(written(writer, message), write_plainly(writer, message))


class NothingIsChangedOrKept(unittest.TestCase):
    def test_the_message_is_as_it_was(self):
        message = [0, 1, 1, 0]
        written(WANDERER, message)
        self.assertEqual(message, [0, 1, 1, 0])

    def test_a_refused_message_is_as_it_was(self):
        message = [0, 5, 1]
        self.assertRaises(NoSign, written, WANDERER, message)
        self.assertEqual(message, [0, 5, 1])

    def test_a_message_that_was_changed_is_written_as_it_is_now(self):
        message = [0]
        self.assertEqual(written(WANDERER, message), "ac")
        message.append(0)
        self.assertEqual(written(WANDERER, message), "a")
        message.clear()
        self.assertEqual(written(WANDERER, message), "")


if __name__ == "__main__":
    unittest.main()
