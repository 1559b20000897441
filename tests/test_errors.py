import unittest

from alikewritten import errors

SIX = ("NoWriter", "NoSign", "NoPiece", "OtherSigns", "NoRoom", "NoNote")


class ErrorClasses(unittest.TestCase):
    def test_the_base_stands_straight_under_value_error(self):
        self.assertEqual(errors.WriteError.__bases__, (ValueError,))

    def test_each_refusal_stands_straight_under_the_base(self):
        for name in SIX:
            with self.subTest(name):
                self.assertEqual(getattr(errors, name).__bases__, (errors.WriteError,))

    def test_no_refusal_stands_under_another(self):
        for name in SIX:
            for other in SIX:
                if name != other:
                    with self.subTest(name=name, other=other):
                        self.assertFalse(issubclass(getattr(errors, name), getattr(errors, other)))

    def test_each_refusal_bears_its_own_name(self):
        for name in ("WriteError",) + SIX:
            self.assertEqual(getattr(errors, name).__name__, name)


if __name__ == "__main__":
    unittest.main()
