"""The interface: names, arguments, and which refusal is ahead where several are due."""

import importlib
import inspect
import unittest

from alikewritten import errors
from alikewritten.alike import alike
from alikewritten.notes import read, shown
from alikewritten.pieces import with_piece
from alikewritten.two import joined, parted
from alikewritten.writers import read_back, written

INTERFACE = {
    "alikewritten.writers": {"written": ["writer", "message"], "read_back": ["writer", "text"]},
    "alikewritten.alike": {"alike": ["writer"]},
    "alikewritten.pieces": {"with_piece": ["writer", "piece"]},
    "alikewritten.two": {"parted": ["first", "second"], "joined": ["first", "second"]},
    "alikewritten.notes": {"shown": ["writer"], "read": ["text"]},
}

ONE_SIGN = (1, ((("a", 0),),), ("",))
TWO_SIGNS = (2, ((("a", 0), ("b", 0)),), ("",))
# A letter that is no sign of one with two signs, and more states than there is room for beside two.
WITH_C = (1, ((("c", 1),), (("a", 2),), (("a", 3),), (("a", 0),)), ("",) * 4)
FOUR_STATES = (1, ((("a", 1),), (("a", 2),), (("a", 3),), (("a", 0),)), ("",) * 4)
TWO_STATES = (2, ((("a", 1), ("b", 0)), (("a", 0), ("b", 1))), ("", ""))
LONG = (1, ((("aaaaaaaa", 0),),), ("",))
DOUBLING = (2, ((("aa", 0), ("b", 0)),), ("",))
NO_WRITER = (2, ((("a", 0), ("e", 0)),), ("",))
NO_WRITER_WITH_C = (1, ((("c", 1),),), ("",))

REFUSED = (
    ("NoWriter", written, (NO_WRITER, [0])),
    ("NoWriter", written, (NO_WRITER, [2])),
    ("NoWriter", written, (NO_WRITER, [-1])),
    ("NoSign", written, (TWO_SIGNS, [2])),
    ("NoSign", written, (TWO_SIGNS, [0, -1])),
    ("NoWriter", read_back, (NO_WRITER, "a")),
    ("NoWriter", read_back, (NO_WRITER, "no letters")),
    ("NoWriter", alike, (NO_WRITER,)),
    ("NoWriter", with_piece, (NO_WRITER, "a")),
    ("NoWriter", with_piece, (NO_WRITER, "")),
    ("NoWriter", with_piece, (NO_WRITER, "e")),
    ("NoPiece", with_piece, (TWO_SIGNS, "")),
    ("NoPiece", with_piece, (TWO_SIGNS, "e")),
    ("NoWriter", parted, (NO_WRITER, TWO_SIGNS)),
    ("NoWriter", parted, (TWO_SIGNS, NO_WRITER)),
    ("NoWriter", parted, (NO_WRITER, ONE_SIGN)),
    ("NoWriter", parted, (ONE_SIGN, NO_WRITER)),
    ("NoWriter", parted, (NO_WRITER, NO_WRITER_WITH_C)),
    ("OtherSigns", parted, (ONE_SIGN, TWO_SIGNS)),
    ("OtherSigns", parted, (TWO_SIGNS, ONE_SIGN)),
    ("NoWriter", joined, (NO_WRITER, TWO_SIGNS)),
    ("NoWriter", joined, (TWO_SIGNS, NO_WRITER)),
    ("NoWriter", joined, (NO_WRITER_WITH_C, TWO_SIGNS)),
    ("NoWriter", joined, (WITH_C, NO_WRITER)),
    ("NoWriter", joined, (NO_WRITER, NO_WRITER_WITH_C)),
    ("OtherSigns", joined, (WITH_C, TWO_SIGNS)),
    ("OtherSigns", joined, (WITH_C, TWO_STATES)),
    ("NoRoom", joined, (FOUR_STATES, TWO_STATES)),
    ("NoRoom", joined, (LONG, DOUBLING)),
    ("NoWriter", shown, (NO_WRITER,)),
    ("NoNote", read, ("",)),
    ("NoNote", read, ("a>1 b",)),
    ("NoNote", read, ("e>0 b",)),
)


class Interface(unittest.TestCase):
    def test_every_function_is_there_with_its_arguments(self):
        for module, functions in INTERFACE.items():
            for name, arguments in functions.items():
                with self.subTest(module, name=name):
                    function = getattr(importlib.import_module(module), name)
                    self.assertEqual(list(inspect.signature(function).parameters), arguments)

    def test_arguments_may_be_given_by_name(self):
        self.assertEqual(written(writer=ONE_SIGN, message=[0]), "a")
        self.assertEqual(read_back(writer=ONE_SIGN, text="a"), [0])
        self.assertIsNone(alike(writer=ONE_SIGN))
        self.assertEqual(with_piece(writer=ONE_SIGN, piece="a"), [0])
        self.assertIsNone(parted(first=ONE_SIGN, second=ONE_SIGN))
        self.assertEqual(joined(first=ONE_SIGN, second=ONE_SIGN), ONE_SIGN)
        self.assertEqual(read(text=shown(writer=ONE_SIGN)), ONE_SIGN)


class Refusals(unittest.TestCase):
    def test_each_is_of_its_own_class(self):
        for name, function, handed_in in REFUSED:
            with self.subTest(name, function=function.__name__, handed_in=handed_in):
                with self.assertRaises(errors.WriteError) as caught:
                    function(*handed_in)
                self.assertIs(type(caught.exception), getattr(errors, name))


if __name__ == "__main__":
    unittest.main()
