"""Promise 9."""

import itertools
import unittest

from alikewritten.errors import NoRoom, NoWriter, OtherSigns
from alikewritten.two import joined, parted
from alikewritten.writers import written
from helpers import LETTER_BY_LETTER, WANDERER, fullest_writer, messages_up_to, some_writers, write_plainly

NO_WRITER = (2, ((("a", 0), ("e", 0)),), ("",))

# Writes what it takes.
LETTERS_AS_THEY_ARE = (4, ((("a", 0), ("b", 0), ("c", 0), ("d", 0)),), ("",))

# Its ending tells by which state it is left: d behind an even number of a, c behind an odd one.
EVEN_OR_ODD = (2, ((("a", 1), ("b", 0)), (("b", 0), ("", 1))), ("d", "c"))


def one_state(words, ending=""):
    return (len(words), (tuple((word, 0) for word in words),), (ending,))


def ring(states, word="a", ending=""):
    """One sign; each state goes to the next one, the last to the first."""
    rows = tuple(((word, (state + 1) % states),) for state in range(states))
    return (1, rows, (ending,) * states)


def write_after_the_other(first, second, message):
    """What the second one writes of what the first one writes, word for word as the document says it."""
    return write_plainly(second, ["abcd".index(letter) for letter in write_plainly(first, message)])


class HoldsBoth(unittest.TestCase):
    def hold(self, first, second, length):
        both = joined(first, second)
        self.assertEqual(len(both[1]), len(first[1]) * len(second[1]), (first, second))
        self.assertEqual(both[0], first[0], (first, second))
        self.hold_kinds(both)
        for message in messages_up_to(first[0], length):
            asked = write_after_the_other(first, second, message)
            self.assertEqual(write_plainly(both, message), asked, (first, second, message))
            self.assertEqual(written(both, message), asked, (first, second, message))

    def hold_kinds(self, both):
        signs, rows, endings = both
        self.assertEqual([type(part) for part in (both, signs, rows, endings)], [tuple, int, tuple, tuple])
        for row in rows:
            self.assertIs(type(row), tuple)
            for pair in row:
                self.assertIs(type(pair), tuple)
                self.assertEqual([type(part) for part in pair], [str, int])
        self.assertEqual({type(ending) for ending in endings}, {str})


class Joined(HoldsBoth):
    def test_worked_out_by_hand(self):
        first = (2, ((("a", 0), ("ab", 0)),), ("a",))
        both = joined(first, EVEN_OR_ODD)
        by_hand = (
            ([], "ac"),  # a, by state 1.
            ([0], "abd"),  # aa, by state 0.
            ([1], "abd"),  # aba: b is left out, since an a was odd before it.
            ([0, 0], "abac"),  # aaa
            ([0, 1], "abbac"),  # aaba
            ([1, 0], "abac"),  # abaa
        )
        self.assertEqual(len(both[1]), 2)
        for message, text in by_hand:
            with self.subTest(message):
                self.assertEqual(written(both, message), text)

    def test_letters_are_taken_as_signs_in_their_order(self):
        turned = one_state(("d", "c", "b", "a"), "aa")
        self.assertEqual(written(joined(LETTERS_AS_THEY_ARE, turned), [0, 1, 2, 3]), "dcbaaa")
        self.assertEqual(joined(one_state(("abcd",), "ab"), turned), (1, ((("dcba", 0),),), ("dcaa",)))

    def test_the_second_ones_ending_stands_behind_what_it_writes_of_the_first_ones(self):
        self.assertEqual(joined(one_state(("a",), "b"), one_state(("a", "c"), "d")), (1, ((("a", 0),),), ("cd",)))

    def test_the_ending_is_that_of_the_state_behind_the_first_ones_ending(self):
        first = (1, ((("b", 0),),), ("a",))
        both = joined(first, EVEN_OR_ODD)
        self.assertEqual(written(both, []), "ac")
        self.assertEqual(written(both, [0]), "bac")

    def test_empty_words_leave_the_second_one_where_it_is(self):
        first = (2, ((("", 0), ("a", 0)),), ("",))
        both = joined(first, EVEN_OR_ODD)
        self.assertEqual([written(both, message) for message in ([], [0], [1], [1, 0, 0])], ["d", "d", "ac", "ac"])
        self.hold(first, EVEN_OR_ODD, 6)

    def test_both_begin_in_their_first_states(self):
        first = (1, ((("a", 1),), (("b", 1),)), ("", "a"))
        second = (2, ((("a", 1), ("b", 2)), (("c", 1), ("d", 2)), (("", 0), ("aa", 0))), ("", "b", "c"))
        self.hold(first, second, 9)
        self.assertEqual(written(joined(first, second), []), "")

    def test_before_and_behind_one_that_writes_what_it_takes(self):
        for writer in (WANDERER, fullest_writer(), LETTERS_AS_THEY_ARE):
            self.assertIsNone(parted(joined(writer, LETTERS_AS_THEY_ARE), writer))
        for writer in some_writers(20, 4, 6, ("", "a", "bd", "abcdabcd"), 91):
            self.assertIsNone(parted(joined(writer, LETTERS_AS_THEY_ARE), writer))
            self.assertIsNone(parted(joined(LETTERS_AS_THEY_ARE, writer), writer))

    def test_one_writer_behind_itself(self):
        self.hold(LETTER_BY_LETTER, LETTER_BY_LETTER, 5)
        self.hold(EVEN_OR_ODD[:2] + (("b", "a"),), EVEN_OR_ODD[:2] + (("b", "a"),), 6)


class AgainstAPlainWay(HoldsBoth):
    def hold_all(self, firsts, seconds, length):
        for first, second in itertools.product(firsts, seconds):
            self.hold(first, second, length)

    def test_one_state_and_several(self):
        firsts = some_writers(8, 2, 1, ("", "a", "b", "ab", "bba"), 92)
        self.hold_all(firsts, some_writers(8, 2, 6, ("", "a", "b", "cd"), 92), 5)

    def test_several_states_and_one(self):
        firsts = some_writers(8, 2, 6, ("", "a", "b", "ab", "bba"), 93)
        self.hold_all(firsts, some_writers(8, 2, 1, ("", "a", "b", "cd"), 93), 5)

    def test_two_states_and_three(self):
        firsts = some_writers(10, 2, 2, ("", "a", "c", "cab", "bb"), 94)
        self.hold_all(firsts, some_writers(10, 3, 3, ("", "a", "d", "bc"), 94), 5)

    def test_three_states_and_two(self):
        firsts = some_writers(10, 3, 3, ("", "a", "bcd", "dd", "cab"), 95)
        self.hold_all(firsts, some_writers(10, 4, 2, ("", "a", "b", "cd"), 95), 4)

    def test_unlike_counts_of_signs_are_let_through(self):
        firsts = some_writers(6, 4, 2, ("", "a", "aa"), 96)
        self.hold_all(firsts, some_writers(6, 1, 2, ("", "a", "bcd"), 96), 4)


class RefusedWithOtherSigns(unittest.TestCase):
    def test_a_letter_that_is_no_sign_of_the_second_one(self):
        for signs in (1, 2, 3, 4):
            second = one_state(("a",) * signs)
            for at, letter in enumerate("abcd"):
                for first in (one_state((letter,)), one_state(("", letter)), one_state(("a",), letter),
                              one_state(("a" + letter + "a",)), one_state(("a",), "a" + letter)):
                    with self.subTest(signs=signs, first=first):
                        if at < signs:
                            self.assertEqual(len(joined(first, second)[1]), 1)
                        else:
                            self.assertRaises(OtherSigns, joined, first, second)

    def test_in_a_word_that_is_never_come_to(self):
        self.assertRaises(OtherSigns, joined, (1, ((("a", 0),), (("c", 0),)), ("", "")), LETTER_BY_LETTER)

    def test_in_an_ending_that_is_never_come_to(self):
        self.assertRaises(OtherSigns, joined, (1, ((("a", 0),), (("a", 0),)), ("", "c")), LETTER_BY_LETTER)

    def test_in_a_word_of_the_last_sign_of_the_last_state(self):
        first = (2, ((("a", 1), ("b", 1)), (("a", 0), ("abd", 0))), ("", ""))
        self.assertRaises(OtherSigns, joined, first, LETTER_BY_LETTER)

    def test_what_the_second_one_writes_may_have_any_letter(self):
        self.assertEqual(written(joined(LETTER_BY_LETTER, one_state(("c", "d"), "d")), [0, 1]), "cdd")

    def test_other_signs_are_ahead_of_no_room(self):
        never_come_to = (1, ((("a", 0),),) * 3 + ((("d", 0),),), ("",) * 4)
        for first in (ring(4, "c"), ring(4, "a", "c"), never_come_to):
            with self.subTest(first):
                self.assertRaises(OtherSigns, joined, first, EVEN_OR_ODD)
                self.assertRaises(OtherSigns, joined, first, ring(6, "aaaaaaaa", "aaaaaaaa"))
        too_long = one_state(("aaaaaaaa",), "b")
        self.assertRaises(OtherSigns, joined, too_long, one_state(("aa",)))
        self.assertRaises(NoRoom, joined, too_long, one_state(("aa", "a")))
        self.assertRaises(OtherSigns, joined, fullest_writer(), ring(6, "aaaaaaaa", "aaaaaaaa"))


class RefusedWithNoRoom(HoldsBoth):
    def test_as_many_states_as_there_is_room_for(self):
        for states, others in itertools.product(range(1, 7), repeat=2):
            with self.subTest(states=states, others=others):
                if states * others <= 6:
                    self.hold(ring(states), ring(others), 13)
                else:
                    self.assertRaises(NoRoom, joined, ring(states), ring(others))

    def test_more_than_six_states_though_few_are_come_to(self):
        still = (1, ((("a", 0),),) * 4, ("",) * 4)
        self.assertRaises(NoRoom, joined, still, still)
        self.assertRaises(NoRoom, joined, still, still[:1] + (still[1][:2], still[2][:2]))

    def test_a_word_of_as_many_letters_as_there_is_room_for(self):
        for word, other in itertools.product(range(9), repeat=2):
            first, second = one_state(("a" * word,)), one_state(("b" * other,))
            with self.subTest(word=word, other=other):
                if word * other <= 8:
                    self.assertEqual(joined(first, second), one_state(("b" * (word * other),)))
                else:
                    self.assertRaises(NoRoom, joined, first, second)

    def test_an_ending_of_as_many_letters_as_there_is_room_for(self):
        for size, other, last in itertools.product((0, 1, 2, 4, 8), (0, 1, 2, 3), (0, 1, 4, 8)):
            first, second = one_state(("",), "a" * size), one_state(("b" * other,), "c" * last)
            with self.subTest(size=size, other=other, last=last):
                if size * other + last <= 8:
                    self.assertEqual(joined(first, second), one_state(("",), "b" * (size * other) + "c" * last))
                else:
                    self.assertRaises(NoRoom, joined, first, second)

    def test_a_word_too_long_that_is_never_come_to(self):
        of_the_first = (1, ((("a", 0),), (("aaaaa", 0),)), ("", ""))
        self.assertRaises(NoRoom, joined, of_the_first, one_state(("bb",)))
        of_the_second = (1, ((("b", 0),), (("bbbbb", 1),)), ("", ""))
        self.assertRaises(NoRoom, joined, one_state(("aa",)), of_the_second)

    def test_a_word_too_long_by_two_states_that_are_never_come_to_together(self):
        # Both go round in two: only equal states are come to together.
        first = (1, ((("a", 1),), (("aaa", 0),)), ("", ""))
        second = (1, ((("bbbbb", 1),), (("b", 0),)), ("", ""))
        self.assertRaises(NoRoom, joined, first, second)

    def test_an_ending_too_long_that_is_never_come_to(self):
        of_the_first = (1, ((("a", 0),), (("a", 0),)), ("", "aaaaa"))
        self.assertRaises(NoRoom, joined, of_the_first, one_state(("bb",)))
        of_the_second = (1, ((("b", 0),), (("b", 1),)), ("", "cccccccc"))
        self.assertRaises(NoRoom, joined, one_state(("a",), "a"), of_the_second)
        self.hold(one_state(("a",), ""), of_the_second, 5)

    def test_every_bound_reached_at_once(self):
        first = (4, ((("abcd", 0), ("", 1), ("dddd", 2), ("a", 0)),) * 3, ("aaaa", "", "b"))
        second = (4, ((("aa", 1), ("bb", 1), ("cc", 0), ("dd", 0)),) * 2, ("", ""))
        self.hold(first, second, 4)
        self.hold(fullest_writer(), LETTERS_AS_THEY_ARE, 3)
        self.hold(ring(6, "aaaaaaaa", "aaaaaaaa"), one_state(("c",)), 6)


class RefusedWithNoWriter(unittest.TestCase):
    def test_no_writer_is_ahead_of_all_others(self):
        for other in (LETTER_BY_LETTER, one_state(("c",)), fullest_writer(), ring(6, "aaaaaaaa")):
            with self.subTest(other):
                self.assertRaises(NoWriter, joined, NO_WRITER, other)
                self.assertRaises(NoWriter, joined, other, NO_WRITER)
        self.assertRaises(NoWriter, joined, NO_WRITER, NO_WRITER)


if __name__ == "__main__":
    unittest.main()
