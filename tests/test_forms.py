"""The helper module: forms of any value."""

import unittest

from tests.samples import NAMES, NO_NAMES, NO_STRINGS
from turndoors.forms import has_shape, is_choice, is_groups, is_name, is_strings, is_whole


class FormsTest(unittest.TestCase):

    def test_names(self):
        for value in NAMES:
            self.assertIs(is_name(value), True)
        for value in NO_NAMES + NO_STRINGS:
            self.assertIs(is_name(value), False)

    def test_strings(self):
        for value in ((), ("",), ("a", "B c\n")):
            self.assertIs(is_strings(value), True)
        for value in (None, "ab", ["a"], ("a", 1), (True,), (("a",),)):
            self.assertIs(is_strings(value), False)

    def test_shape(self):
        for value in (((), ()), (("a",), (("x", "y"), ("", "")))):
            self.assertIs(has_shape(value, 2), True)
        for value in (None, "ab", (), ((),), ((), (), ()), ((1,), ()), ((), (("x",),)), ((), (("x", 1),)), ((), "")):
            self.assertIs(has_shape(value, 2), False)

    def test_groups(self):
        for value in ((), (("x", "y"),), (("x", "y"), ("", ""))):
            self.assertIs(is_groups(value, 2), True)
        for value in (None, "ab", ("xy",), (("x",),), (("x", 1),), (("x", "y"), ("x", "y", "z")), (("x", "y"), None)):
            self.assertIs(is_groups(value, 2), False)

    def test_choice(self):
        for value in ((), ("a",), ("c", "a"), ("b", "c", "a")):
            self.assertIs(is_choice(value, ("a", "b", "c")), True)
        for value in (None, "a", "abc", ("d",), ("a", "a"), ("a", ""), ("a", 1), ("a", None), (("a",),), (True,)):
            self.assertIs(is_choice(value, ("a", "b", "c")), False)

    def test_whole(self):
        for value in (0, 1, -1, 10 ** 3999):
            self.assertIs(is_whole(value), True)
        for value in (True, False, None, "", "1", (), (1,)):
            self.assertIs(is_whole(value), False)


if __name__ == "__main__":
    unittest.main()
