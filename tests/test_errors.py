"""Stage 1: the error classes."""

import unittest

from turndoors import errors

UNDER_HALL_ERROR = {
    "InvalidHall": ("reason", "index"),
    "InvalidState": ("reason", "index"),
    "InvalidText": ("line",),
    "Blocked": ("index",),
    "NotRing": (),
    "Mismatch": ("name",),
    "TooMany": ("count",),
    "Full": ("most",),
    "Unbalanced": ("difference",),
    "Rejected": ("index",),
    "InvalidCommand": (),
}

UNDER_KEY_ERROR = {
    "UnknownRoom": ("name",),
    "UnknownDoor": ("name",),
    "UnknownWalker": ("name",),
}

ANY_VALUES = (
    None, True, False, 0, 1, -3, 10 ** 3999, "", "end", "a b\n", (), ("a", (1, (None, False))), ((("x",),),),
)


class ErrorsTest(unittest.TestCase):

    def test_base_classes(self):
        self.assertEqual(errors.HallError.__bases__, (ValueError,))
        for name in UNDER_HALL_ERROR:
            self.assertEqual(getattr(errors, name).__bases__, (errors.HallError,), name)
        for name in UNDER_KEY_ERROR:
            self.assertEqual(getattr(errors, name).__bases__, (KeyError,), name)

    def test_no_other_error_class_of_the_package(self):
        own = {"HallError", *UNDER_HALL_ERROR, *UNDER_KEY_ERROR}
        found = {name for name, value in vars(errors).items() if isinstance(value, type)}
        self.assertEqual(found, own)
        for name in sorted(own):
            others = [
                other for other in own - {name, "HallError"}
                if issubclass(getattr(errors, name), getattr(errors, other))
            ]
            self.assertEqual(others, [], name)

    def test_made_by_position_and_by_name(self):
        for name, fields in {**UNDER_HALL_ERROR, **UNDER_KEY_ERROR}.items():
            made = getattr(errors, name)
            for start in range(len(ANY_VALUES)):
                values = [ANY_VALUES[(start + k) % len(ANY_VALUES)] for k in range(len(fields))]
                by_name = dict(zip(fields, values))
                backwards = dict(reversed(list(by_name.items())))
                for error in (made(*values), made(**by_name), made(**backwards)):
                    self.check_attributes(error, by_name)

    def check_attributes(self, error, wanted):
        self.assertEqual(vars(error), wanted)
        for field, value in wanted.items():
            self.assertIs(getattr(error, field), value)

    def test_attributes_do_not_depend_on_later_errors(self):
        first = errors.InvalidHall("end", 3)
        errors.InvalidHall("room", 1)
        self.assertEqual((first.reason, first.index), ("end", 3))

    def test_every_value_must_be_given(self):
        for name, fields in {**UNDER_HALL_ERROR, **UNDER_KEY_ERROR}.items():
            if fields:
                with self.assertRaises(TypeError):
                    getattr(errors, name)()

    def test_caught_by_their_bases(self):
        with self.assertRaises(ValueError):
            raise errors.NotRing()
        with self.assertRaises(errors.HallError):
            raise errors.InvalidCommand()
        with self.assertRaises(LookupError):
            raise errors.UnknownWalker("p")
        self.assertNotIsInstance(errors.UnknownDoor("x"), ValueError)


if __name__ == "__main__":
    unittest.main()
