import unittest

from fallorflow import errors

KEPT = {
    "ParseError": ("spot", errors.FlowError),
    "InvalidNumber": ("given", IndexError),
    "UnknownName": ("asked", KeyError),
    "NothingToUndo": ("wanted", LookupError),
    "TooMany": ("limit", OverflowError),
    "Refused": ("reason", ArithmeticError),
}
PLAIN = ["InvalidForm", "InvalidRows", "InvalidSystem", "InvalidKeep", "InvalidChoice", "InvalidClaim", "InvalidText",
         "InvalidOperation"]
ANY = [None, True, 7, 10 ** 219, "told", ("guard", 0), [1], {1: 2}, ()]


class ErrorsTest(unittest.TestCase):
    def test_what_they_derive_from(self):
        self.assertEqual(errors.FlowError.__bases__, (ValueError,))
        for name in PLAIN:
            self.assertEqual(getattr(errors, name).__bases__, (errors.FlowError,), name)
        for name, (_, base) in KEPT.items():
            self.assertEqual(getattr(errors, name).__bases__, (base,), name)

    def test_there_are_no_others(self):
        found = [name for name, value in vars(errors).items() if isinstance(value, type)]
        self.assertEqual(sorted(found), sorted([*PLAIN, *KEPT, "FlowError"]))

    def test_what_they_keep(self):
        for name, (attribute, _) in KEPT.items():
            for value in ANY:
                error = getattr(errors, name)(value)
                self.assertIs(getattr(error, attribute), value, name)
                self.assertEqual(repr(error), f"{name}({value!r})")

    def test_what_the_others_take(self):
        for name in [*PLAIN, "FlowError"]:
            for value in ANY:
                self.assertEqual(getattr(errors, name)(value).args, (value,))

    def test_they_can_be_raised(self):
        for name, (attribute, base) in KEPT.items():
            with self.assertRaises(base) as caught:
                raise getattr(errors, name)(("a", 1))
            self.assertEqual(getattr(caught.exception, attribute), ("a", 1))
        for name in PLAIN:
            with self.assertRaises(errors.FlowError):
                raise getattr(errors, name)("no")
