"""Halls, states and odd values that several tests use."""

import unittest

H = (("a", "b", "c"), (("x", "a", "b"), ("y", "b", "c"), ("z", "a", "c")))
S = (("a", "b", "c"), (("p", "a"),))

LETTERS = "abcdefghijklmnopqrstuvwxyz"

NO_TUPLES = (
    None, True, False, 0, 1, -1, 2, 10 ** 3999, -(10 ** 3999),
    "", "a", "ab", "rooms", "(('a',), ())", " \n",
)

NO_STRINGS = (
    None, True, False, 0, 1, -7, 10 ** 3999, (), ("a",), ("a", "b"), (((((((("a",),),),),),),),),
)

NO_NAMES = (
    "", "abcdefg", "a" * 2000, "A", "aB", "a1", "1", "_", "a_b", "a b", " a", "a ", "\na", "a\n", "\n", " ",
    "-a", "a-", "a;", "`", "{", "@a", "[a",
)

NAMES = ("a", "z", "az", "abcdef", "zzzzzz", "p", "rooms", "door", "faces", "walker")


def nested(value, depth):
    """Return the value inside so many tuples."""
    for _ in range(depth):
        value = (value,)
    return value


# Values that may stand in the place of any value or of any item of one.
ODD_VALUES = (
    None, True, False, 0, 1, -1, 2, 7, 10 ** 3999, -(10 ** 3999), "", "a", "b", "x", "p", "row", "a b", "\n", (), ((),),
    ("a",), ("b", "b"), ("a", "b", "c"), ("x",), ("p", "x"), (("p", "x"),), (("p", "x"), ("p", 1)), (True,), (0, 0, 0),
    (None, None), (("a",),), nested("a", 10), nested((), 9),
)


def changed(value, depth=2):
    """Return the value with something in it replaced, left out, put in or doubled, down to this depth."""
    found = list(ODD_VALUES)
    if type(value) is tuple:
        found.extend([value[::-1], value + value, (value,), *[value + (odd,) for odd in ODD_VALUES[:8]]])
        for at, item in enumerate(value):
            found.append(value[:at] + value[at + 1:])
            found.append(value[:at] + (item, item) + value[at + 1:])
            if depth > 0:
                found.extend([value[:at] + (other,) + value[at + 1:] for other in changed(item, depth - 1)])
    elif type(value) is int:
        found.extend([value + 1, value - 1, -value, bool(value), str(value)])
    elif type(value) is str:
        found.extend([value + "a", value.upper(), value + " ", (value,)])
    return found


def wide_hall(rooms, doors):
    """Return a hall with so many rooms and doors; neighbouring rooms of a circle are joined."""
    names = tuple(LETTERS[n] for n in range(rooms))
    joined = []
    for n in range(doors):
        joined.append((LETTERS[n] + "d", names[n % rooms], names[(n + 1) % rooms]))
    return (names, tuple(joined))


def wide_state(hall, walkers):
    """Return a state of the hall with so many walkers; the doors face their ends by turns."""
    rooms, doors = hall
    faces = tuple(door[1 + n % 2] for n, door in enumerate(doors))
    places = tuple((LETTERS[n] + "w", rooms[n * 3 % len(rooms)]) for n in range(walkers))
    return (faces, places)


def many_halls():
    """Return halls of every size, with and without doors."""
    halls = [H]
    for rooms in range(1, 9):
        for doors in range(13 if rooms > 1 else 1):
            halls.append(wide_hall(rooms, doors))
    return halls


def is_plain(value):
    """Tell whether the value is made of tuples, strings, whole numbers, booleans and None alone."""
    if type(value) is tuple:
        return all(is_plain(item) for item in value)
    return value is None or type(value) in (str, int, bool)


class Case(unittest.TestCase):
    """A test case that looks at the values of errors."""

    def raises(self, error, values, call, *args, **named):
        """Check that the call raises exactly this error with exactly these attributes, and changes no argument."""
        before = repr(args)
        with self.assertRaises(error) as caught:
            call(*args, **named)
        self.assertEqual(repr(args), before)
        self.assertIs(type(caught.exception), error)
        self.assertEqual(set(vars(caught.exception)), set(values))
        for name, value in values.items():
            found = getattr(caught.exception, name)
            self.assertEqual(found, value)
            self.assertIs(type(found), type(value))

    def gives(self, wanted, call, *args):
        """Check the result and its kinds, that the call can be made again, and that its arguments stay the same."""
        before = repr(args)
        result = call(*args)
        self.assertEqual(repr(result), repr(wanted))
        self.assertEqual(repr(call(*args)), repr(wanted))
        self.assertEqual(repr(args), before)

    def answer(self, call, *args):
        """Return the result, where any of several may be correct, after the same checks as in gives."""
        before = repr(args)
        result = call(*args)
        self.assertTrue(is_plain(result), result)
        self.assertEqual(repr(call(*args)), repr(result))
        self.assertEqual(repr(args), before)
        return result
