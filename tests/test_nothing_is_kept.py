"""Promise 1 over the whole program: what is handed in, and what is told."""

import copy
import itertools
import sys
import unittest

from alikewritten.alike import alike
from alikewritten.errors import WriteError
from alikewritten.notes import read, shown
from alikewritten.pieces import with_piece
from alikewritten.two import joined, parted
from alikewritten.writers import read_back, written

FUNCTIONS = (written, read_back, alike, with_piece, parted, joined, shown, read)


def writer_of(words, ending):
    """Made anew at each call, so that nobody else holds it."""
    return (len(words), (tuple((word, 0) for word in words),), (ending,))


def calls():
    """Each function with things to hand in, taken and refused, all made anew."""
    def plain():
        return writer_of(["a", "b"], "")

    return [
        (written, [plain(), [0, 1, 1]]),
        (written, [plain(), []]),
        (written, [plain(), [0, 2]]),
        (written, [writer_of(["a", "e"], ""), [0]]),
        (read_back, [plain(), "abab"]),
        (read_back, [plain(), ""]),
        (read_back, [plain(), "abc"]),
        (alike, [plain()]),
        (alike, [writer_of(["a", "aa"], "b")]),
        (alike, [writer_of(["a", ""], "b")]),
        (with_piece, [plain(), "abba"]),
        (with_piece, [writer_of(["a", "b"], "cd"), "c"]),
        (with_piece, [plain(), "c"]),
        (with_piece, [plain(), ""]),
        (parted, [plain(), writer_of(["a", "a"], "")]),
        (parted, [plain(), writer_of(["a", "b"], "c")]),
        (parted, [plain(), plain()]),
        (parted, [plain(), writer_of(["a"], "")]),
        (joined, [plain(), writer_of(["ab", "c"], "d")]),
        (joined, [writer_of(["aaaaaaaa"], ""), writer_of(["ab", "c"], "d")]),
        (joined, [writer_of(["c"], ""), plain()]),
        (shown, [plain()]),
        (shown, [writer_of(["a", "e"], "")]),
        (read, ["a>0 ->0 b"]),
        (read, ["a>1 b"]),
    ]


def answer(function, handed_in):
    try:
        return function(*handed_in)
    except WriteError as refusal:
        return type(refusal).__name__


def lists_in(told):
    if isinstance(told, list):
        return [told]
    if isinstance(told, tuple):
        return [found for part in told for found in lists_in(part)]
    return []


class WhatIsHandedIn(unittest.TestCase):
    def test_every_function_is_called(self):
        self.assertEqual({function for function, _ in calls()}, set(FUNCTIONS))

    def test_it_is_as_it_was(self):
        for function, handed_in in calls():
            before = copy.deepcopy(handed_in)
            answer(function, handed_in)
            with self.subTest(function.__name__, handed_in=before):
                self.assertEqual(handed_in, before)

    def test_nobody_holds_it_later(self):
        for function, handed_in in calls():
            lists_and_writers = [part for part in handed_in if not isinstance(part, str)]
            before = [sys.getrefcount(part) for part in lists_and_writers]
            answer(function, handed_in)
            with self.subTest(function.__name__, handed_in=handed_in):
                self.assertEqual([sys.getrefcount(part) for part in lists_and_writers], before)

    def test_a_told_message_is_not_the_one_that_was_handed_in(self):
        message = [0, 1]
        writer = writer_of(["a", "b"], "")
        told = read_back(writer, written(writer, message))
        message.append(1)
        self.assertEqual(told, [0, 1])


class WhatIsTold(unittest.TestCase):
    def test_no_two_lists_are_one_and_the_same(self):
        told = [answer(function, handed_in) for function, handed_in in calls() + calls()]
        lists = lists_in(tuple(told))
        self.assertGreater(len(lists), 10)
        for one, other in itertools.combinations(lists, 2):
            self.assertIsNot(one, other)

    def test_lists_that_were_changed_change_no_later_answer(self):
        first_answers = []
        for function, handed_in in calls():
            told = answer(function, handed_in)
            first_answers.append(copy.deepcopy(told))
            for found in lists_in(told):
                found.insert(0, 9)
                found.extend([8, 7])
        for (function, handed_in), before in zip(calls(), first_answers):
            with self.subTest(function.__name__, handed_in=handed_in):
                self.assertEqual(answer(function, handed_in), before)

    def test_the_same_answer_whatever_was_asked_between(self):
        in_order = [answer(function, handed_in) for function, handed_in in calls()]
        turned = [answer(function, handed_in) for function, handed_in in reversed(calls())]
        self.assertEqual(in_order, turned[::-1])

    def test_writers_that_are_told_have_no_list_in_them(self):
        self.assertEqual(lists_in(joined(writer_of(["a", "b"], ""), writer_of(["ab", "c"], "d"))), [])
        self.assertEqual(lists_in(read("a>0 ->0 b")), [])


if __name__ == "__main__":
    unittest.main()
