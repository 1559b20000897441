"""Promise 10."""

import itertools
import random
import unittest

from alikewritten.errors import NoNote, NoWriter
from alikewritten.notes import read, shown
from helpers import LETTER_BY_LETTER, WANDERER, fullest_writer, some_writers

NO_WRITER = (2, ((("a", 0), ("e", 0)),), ("",))

BY_HAND = {
    "one of each": ((1, ((("a", 0),),), ("b",)), "a>0 b"),
    "nothing but empty words": ((1, ((("", 0),),), ("",)), "->0 -"),
    "the document's own line": ((2, ((("a", 0), ("", 1)), (("", 1), ("b", 0))), ("b", "")), "a>0 ->1 b\n->1 b>0 -"),
    "two signs": (LETTER_BY_LETTER, "a>0 b>0 -"),
    "three states": (WANDERER, "a>1 ->2 -\n->0 bc>1 c\nddd>2 ->0 ab"),
    "every bound reached": (
        fullest_writer(),
        "\n".join(["abcdabcd>0 bbbbbbbb>5 ->0 dddddddd>5 cccccccc"] * 6),
    ),
    "longest of all": (
        (4, ((("abcdabcd", 5),) * 4,) * 6, ("dddddddd",) * 6),
        "\n".join(["abcdabcd>5 abcdabcd>5 abcdabcd>5 abcdabcd>5 dddddddd"] * 6),
    ),
    "six states of one sign": (
        (1, tuple((("", state),) for state in range(6)), ("", "a", "b", "c", "d", "")),
        "->0 -\n->1 a\n->2 b\n->3 c\n->4 d\n->5 -",
    ),
}

NO_NOTES = {
    "the empty text": "",
    "a blank alone": " ",
    "a line end alone": "\n",
    "no sign": "a",
    "no sign and an empty ending": "-",
    "no ending": "a>0",
    "no ending in the second line": "a>0 b\na>0",
    "a blank for an ending": "a>0 ",
    "no word before >": ">0 b",
    "no word before > in a later part": "a>0 >0 b",
    "no next state": "a> b",
    "no >": "a0 b",
    "> twice": "a>>0 b",
    "two next states": "a>0>0 b",
    "> alone": "> b",
    "a next state in the ending": "a>0 b>0",
    "another sign in the place of >": "a<0 b",
    "a blank before": " a>0 b",
    "a blank behind": "a>0 b ",
    "two blanks between": "a>0  b",
    "a blank before >": "a >0 b",
    "a blank behind >": "a> 0 b",
    "no blank between": "a>0b",
    "no blank between two steps": "a>0b>0 -",
    "a line end before": "\na>0 b",
    "a line end behind": "a>0 b\n",
    "two line ends between": "a>0 b\n\na>0 b",
    "a line end in the place of a blank": "a>0\nb",
    "a blank in the place of a line end": "a>0 b a>0 b",
    "a blank before a line end": "a>0 b \na>0 b",
    "a blank behind a line end": "a>0 b\n a>0 b",
    "a carriage return": "a>0 b\r\na>0 b",
    "a tab in the place of a blank": "a>0\tb",
    "a tab before": "\ta>0 b",
    "a tab behind": "a>0 b\t",
    "a tab beside a blank": "a>0 \tb",
    "a tab in the place of a line end": "a>0 b\ta>0 b",
    "a leading zero": "a>00 b",
    "a leading zero before another number": "a>01 b\na>0 b",
    "a plus": "a>+0 b",
    "a minus": "a>-0 b",
    "a minus before another number": "a>-1 b\na>0 b",
    "a next state with a point": "a>0. b",
    "a next state of other digits": "a>\u0660 b",
    "a next state with an underscore": "a>0_0 b",
    "a letter for a next state": "a>a b",
    "- for a next state": "a>- b",
    "a next state that is none, of one": "a>1 b",
    "a next state that is none, of two": "a>1 b\na>2 b",
    "a next state that is none, of six": "\n".join(["a>6 b"] * 6),
    "a next state of two digits": "\n".join(["a>10 b"] * 6),
    "a shorter row behind": "a>0 b>0 c\na>0 c",
    "a longer row behind": "a>0 c\na>0 b>0 c",
    "a shorter row between": "a>0 b>0 c\na>0 c\na>0 b>0 c",
    "too many signs": "a>0 a>0 a>0 a>0 a>0 b",
    "too many states": "\n".join(["a>0 b"] * 7),
    "far too many states": "\n".join(["a>0 b"] * 100),
    "too many letters in a word": "aaaaaaaaa>0 b",
    "too many letters in an ending": "a>0 bbbbbbbbb",
    "another letter in a word": "e>0 b",
    "another letter in an ending": "a>0 e",
    "a great letter": "A>0 b",
    "an empty word not written as -": ">0 b",
    "- twice": "-->0 b",
    "- before letters": "-a>0 b",
    "- behind letters": "a->0 b",
    "- within letters": "a-a>0 b",
    "- twice for an ending": "a>0 --",
    "- before an ending": "a>0 -b",
    "- behind an ending": "a>0 b-",
    "an underscore for an empty word": "_>0 b",
    "quotes for an empty word": "''>0 b",
    "a number for a word": "0>0 b",
    "600 blanks": " " * 600,
    "600 line ends": "\n" * 600,
    "600 letters": "a" * 600,
    "600 times >": ">" * 600,
    "a next state of 590 digits": "a>" + "0" * 590 + " b",
    "a next state of 5000 digits": "a>" + "1" * 5000 + " b",
    "the writer as a tuple": str(LETTER_BY_LETTER),
}


def is_read(text):
    try:
        read(text)
    except NoNote:
        return False
    return True


class Shown(unittest.TestCase):
    def test_worked_out_by_hand(self):
        for name, (writer, text) in BY_HAND.items():
            with self.subTest(name):
                self.assertEqual(shown(writer), text)
                self.assertIs(type(shown(writer)), str)

    def test_no_writer(self):
        self.assertRaises(NoWriter, shown, NO_WRITER)
        self.assertRaises(NoWriter, shown, ())
        self.assertRaises(NoWriter, shown, (1, ((("-", 0),),), ("",)))


class Read(unittest.TestCase):
    def hold_kinds(self, writer):
        self.assertEqual([type(part) for part in writer], [int, tuple, tuple])
        self.assertIs(type(writer), tuple)
        for row in writer[1]:
            self.assertIs(type(row), tuple)
            for pair in row:
                self.assertIs(type(pair), tuple)
                self.assertEqual([type(part) for part in pair], [str, int])
        self.assertEqual({type(ending) for ending in writer[2]}, {str})

    def test_worked_out_by_hand(self):
        for name, (writer, text) in BY_HAND.items():
            with self.subTest(name):
                self.assertEqual(read(text), writer)
                self.hold_kinds(read(text))

    def test_what_is_shown_is_read_to_the_same_writer(self):
        words = ("", "a", "b", "cd", "abcdabcd")
        for signs, states in itertools.product((1, 2, 3, 4), (1, 2, 5, 6)):
            for writer in some_writers(10, signs, states, words, 10 * signs + states):
                self.assertEqual(read(shown(writer)), writer)
                self.hold_kinds(read(shown(writer)))

    def test_a_line_for_each_state(self):
        for states in range(1, 7):
            text = "\n".join(["a>0 b>0 c"] * states)
            self.assertEqual(read(text), (2, ((("a", 0), ("b", 0)),) * states, ("c",) * states))

    def test_what_is_no_note(self):
        for name, text in NO_NOTES.items():
            with self.subTest(name):
                self.assertRaises(NoNote, read, text)

    def test_the_same_text_twice_gives_equal_writers(self):
        self.assertEqual(read("a>0 b"), read("a>0 b"))


class OnlyWhatIsShownIsRead(unittest.TestCase):
    def hold(self, text):
        """Where a text is read, it is what is shown of what is read; gives back whether it was."""
        try:
            writer = read(text)
        except NoNote:
            return False
        self.assertEqual(shown(writer), text)
        return True

    def test_all_texts_of_few_signs(self):
        # Two states or two signs would need more than six of them.
        words = ("-", "a", "aa")
        notes = {f"{word}>0 {ending}" for word, ending in itertools.product(words, repeat=2)}
        for size in range(7):
            for signs in itertools.product("a>01- \n", repeat=size):
                text = "".join(signs)
                self.assertEqual(is_read(text), text in notes, text)

    def test_each_change_of_one_sign(self):
        taken = 0
        for text in ("a>0 ->1 b\n->1 b>0 -", "->0 -", "a>1 ->2 -\n->0 bc>1 c\nddd>2 ->0 ab"):
            for at in range(len(text) + 1):
                self.hold(text[:at] + text[at + 1:])
                for sign in ["\t", "\n"] + [chr(code) for code in range(32, 127) if code != 37]:
                    taken += self.hold(text[:at] + sign + text[at:])
                    taken += self.hold(text[:at] + sign + text[at + 1:])
        self.assertGreater(taken, 100)

    def test_many_changes(self):
        chance = random.Random(101)
        taken = 0
        for _ in range(4000):
            signs = list("a>0 ->1 b\n->1 b>0 -")
            for _ in range(chance.randint(1, 3)):
                at = chance.randrange(len(signs))
                signs[at:at + chance.randint(0, 2)] = chance.choice(("", "a", ">", "0", "1", "-", " ", "\n", "->0", "->0 "))
            taken += self.hold("".join(signs))
        self.assertGreater(taken, 100)

    def test_a_blank_or_a_line_end_too_many_or_too_few(self):
        for _, text in BY_HAND.values():
            for at in range(len(text) + 1):
                for sign in " \n\t":
                    self.assertRaises(NoNote, read, text[:at] + sign + text[at:])
                if text[at:at + 1] in (" ", "\n"):
                    self.assertRaises(NoNote, read, text[:at] + text[at + 1:])


if __name__ == "__main__":
    unittest.main()
