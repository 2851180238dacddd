"""Stage 1: halls."""

import unittest

from tests.samples import H, LETTERS, NAMES, NO_NAMES, NO_STRINGS, NO_TUPLES, Case, many_halls, nested, wide_hall
from turndoors.errors import InvalidHall, UnknownDoor, UnknownRoom
from turndoors.halls import DOORS, ROOMS, doors_at, ends_of, glue, validate_hall

TWINS = (("b", "a", "c"), (("y", "a", "b"), ("x", "b", "a"), ("w", "a", "b")))


class ValidateHallTest(Case):

    def refuses(self, reason, index, value):
        self.raises(InvalidHall, {"reason": reason, "index": index}, validate_hall, value)
        self.raises(InvalidHall, {"reason": reason, "index": index}, validate_hall, value)

    def test_constants(self):
        self.assertEqual((ROOMS, DOORS), (8, 12))

    def test_halls(self):
        for hall in many_halls() + [TWINS, (("z", "a"), (("b", "z", "a"), ("a", "a", "z")))]:
            self.gives(True, validate_hall, hall)

    def test_a_room_and_a_door_may_have_the_same_name(self):
        self.gives(True, validate_hall, (("a", "b"), (("a", "a", "b"), ("b", "b", "a"))))

    def test_names(self):
        for name in NAMES:
            self.gives(True, validate_hall, ((name,), ()))
            self.gives(True, validate_hall, (("n", "m"), ((name, "m", "n"),)))
        for letter in LETTERS:
            self.gives(True, validate_hall, ((letter * 6,), ()))

    def test_example(self):
        self.refuses("end", 0, (("a", "b"), (("x", "a", "a"),)))

    def test_form_of_the_whole(self):
        for value in NO_TUPLES:
            self.refuses("form", 0, value)
            self.refuses("form", 0, (value, ()))
            self.refuses("form", 0, (("a",), value))
        for value in ((), (("a",),), (("a",), (), ()), nested((("a",), ()), 1), nested("a", 12), nested((), 11)):
            self.refuses("form", 0, value)

    def test_lists_are_no_tuples(self):
        for value in ([("a",), ()], (["a"], ()), (("a",), []), (("a", "b"), (["x", "a", "b"],))):
            self.refuses("form", 0, value)

    def test_form_of_rooms(self):
        for value in NO_STRINGS:
            self.refuses("form", 0, ((value,), ()))
            self.refuses("form", 0, (("a", value), (("x", "a", "a"),)))

    def test_form_of_doors(self):
        for value in NO_TUPLES:
            self.refuses("form", 0, (("a", "b"), (("x", "a", "b"), value)))
        for door in ((), ("x",), ("x", "a"), ("x", "a", "b", "c"), "xab"):
            self.refuses("form", 0, (("a", "b"), (door,)))
        for value in NO_STRINGS:
            for place in range(3):
                door = ["x", "a", "b"]
                door[place] = value
                self.refuses("form", 0, (("a", "b"), (("w", "a", "b"), tuple(door))))

    def test_numbers_of_rooms(self):
        self.refuses("rooms", 0, ((), ()))
        self.gives(True, validate_hall, wide_hall(8, 0))
        self.refuses("rooms", 0, wide_hall(9, 0))
        self.refuses("rooms", 0, wide_hall(26, 3))

    def test_numbers_of_doors(self):
        self.gives(True, validate_hall, wide_hall(8, 12))
        self.refuses("doors", 0, wide_hall(8, 13))
        self.refuses("doors", 0, wide_hall(2, 26))

    def test_room_names(self):
        for name in NO_NAMES:
            self.refuses("room", 0, ((name,), ()))
            self.refuses("room", 2, (("a", "b", name, "A"), ()))

    def test_repeated_rooms(self):
        self.refuses("room", 1, (("a", "a"), ()))
        self.refuses("room", 3, (("c", "a", "b", "a", "c"), ()))

    def test_door_names(self):
        for name in NO_NAMES:
            self.refuses("door", 0, (("a", "b"), ((name, "a", "b"),)))
            self.refuses("door", 1, (("a", "b"), (("x", "a", "b"), (name, "a", "b"))))

    def test_repeated_doors(self):
        self.refuses("door", 1, (("a", "b"), (("x", "a", "b"), ("x", "a", "b"))))
        self.refuses("door", 2, (("a", "b"), (("x", "a", "b"), ("y", "a", "b"), ("x", "b", "a"))))

    def test_ends(self):
        for end in ("c", "A", "", "a ", "\na", "x", "ab"):
            self.refuses("end", 0, (("a", "b"), (("x", end, "b"),)))
            self.refuses("end", 0, (("a", "b"), (("x", "b", end),)))
            self.refuses("end", 1, (("a", "b"), (("w", "a", "b"), ("x", end, end))))
        self.refuses("end", 1, (("a", "b"), (("x", "a", "b"), ("y", "b", "b"))))
        self.refuses("end", 0, (("a",), (("x", "a", "a"),)))

    def test_order_form_first(self):
        self.refuses("form", 0, ((), (None,)))
        self.refuses("form", 0, (("a",) * 9 + (3,), ()))
        self.refuses("form", 0, (("a",), (("x", "a", "b"),) * 13 + (("x", "a"),)))

    def test_order_rooms_doors_room(self):
        doors = (("x", "a", "b"),) * 13
        self.refuses("rooms", 0, ((), doors))
        self.refuses("rooms", 0, (("a",) * 9, doors))
        self.refuses("doors", 0, (("a",) * 8, doors))
        self.refuses("doors", 0, (("A", "b"), doors))

    def test_order_room_before_door(self):
        self.refuses("room", 1, (("a", "a"), (("X", "a", "a"),)))
        self.refuses("room", 0, (("A", "A"), (("x", "A", "b"), ("x", "A", "b"))))

    def test_order_door_by_door(self):
        self.refuses("door", 0, (("a", "b"), (("X", "a", "a"), ("y", "a", "b"))))
        self.refuses("end", 0, (("a", "b"), (("x", "a", "c"), ("x", "a", "b"))))
        self.refuses("door", 1, (("a", "b"), (("x", "a", "b"), ("x", "a", "a"), ("z", "a", "a"))))


class EndsOfTest(Case):

    def test_example(self):
        self.gives(("b", "c"), ends_of, H, "y")

    def test_each_door_in_the_order_of_the_hall(self):
        self.gives(("a", "b"), ends_of, TWINS, "y")
        self.gives(("b", "a"), ends_of, TWINS, "x")
        self.gives(("a", "b"), ends_of, TWINS, "w")
        for hall in many_halls():
            for name, one, other in hall[1]:
                self.gives((one, other), ends_of, hall, name)

    def test_unknown_door(self):
        for name in ("w", "a", "", "X", "x ", "xx", "x\n"):
            self.raises(UnknownDoor, {"name": name}, ends_of, H, name)
        self.raises(UnknownDoor, {"name": "a"}, ends_of, (("a",), ()), "a")

    def test_by_name(self):
        self.assertEqual(ends_of(door="z", hall=H), ("a", "c"))


class DoorsAtTest(Case):

    def test_example(self):
        self.gives(("x", "z"), doors_at, H, "a")

    def test_order_of_the_hall(self):
        self.gives(("y", "x", "w"), doors_at, TWINS, "a")
        self.gives(("y", "x", "w"), doors_at, TWINS, "b")

    def test_room_without_doors(self):
        self.gives((), doors_at, TWINS, "c")
        self.gives((), doors_at, (("a",), ()), "a")

    def test_every_room(self):
        for hall in many_halls():
            for room in hall[0]:
                wanted = tuple(name for name, *ends in hall[1] if room in ends)
                self.gives(wanted, doors_at, hall, room)

    def test_unknown_room(self):
        for name in ("d", "x", "", "A", "a ", "ab"):
            self.raises(UnknownRoom, {"name": name}, doors_at, H, name)

    def test_by_name(self):
        self.assertEqual(doors_at(room="c", hall=H), ("y", "z"))


class GlueTest(Case):

    def test_example(self):
        hall = (("a", "b", "c"), (("x", "a", "b"),))
        self.gives((("b", "c"), (("x", "c", "b"),)), glue, hall, "c", "a")

    def test_both_ways_and_order(self):
        hall = (("d", "c", "b", "a"), (("z", "a", "b"), ("y", "b", "a"), ("x", "c", "a"), ("w", "b", "c")))
        self.gives(
            (("d", "c", "b"), (("z", "d", "b"), ("y", "b", "d"), ("x", "c", "d"), ("w", "b", "c"))),
            glue, hall, "d", "a",
        )
        self.gives(
            (("c", "b", "a"), (("z", "a", "b"), ("y", "b", "a"), ("x", "c", "a"), ("w", "b", "c"))),
            glue, hall, "a", "d",
        )

    def test_no_doors(self):
        self.gives((("a",), ()), glue, (("a", "b"), ()), "a", "b")
        self.gives((("b",), ()), glue, (("a", "b"), ()), "b", "a")

    def test_door_of_the_same_name_as_a_room(self):
        self.gives((("b", "c"), (("a", "b", "c"),)), glue, (("a", "b", "c"), (("a", "b", "c"),)), "b", "a")

    def test_result_is_a_hall(self):
        for hall in many_halls():
            for one in hall[0]:
                for other in hall[0]:
                    if one != other and not any({one, other} == set(ends) for _, *ends in hall[1]):
                        self.assertTrue(validate_hall(glue(hall, one, other)))

    def test_unknown_rooms(self):
        self.raises(UnknownRoom, {"name": "d"}, glue, H, "d", "a")
        self.raises(UnknownRoom, {"name": "e"}, glue, H, "a", "e")
        self.raises(UnknownRoom, {"name": "d"}, glue, H, "d", "e")
        self.raises(UnknownRoom, {"name": "d"}, glue, H, "d", "d")

    def test_first_door_whose_ends_are_then_the_same(self):
        self.raises(InvalidHall, {"reason": "end", "index": 0}, glue, H, "a", "b")
        self.raises(InvalidHall, {"reason": "end", "index": 1}, glue, H, "c", "b")
        self.raises(InvalidHall, {"reason": "end", "index": 2}, glue, H, "c", "a")
        self.raises(InvalidHall, {"reason": "end", "index": 0}, glue, TWINS, "b", "a")

    def test_unknown_room_before_ends(self):
        self.raises(UnknownRoom, {"name": "x"}, glue, TWINS, "x", "a")

    def test_room_with_itself(self):
        for hall in many_halls():
            for room in hall[0]:
                self.raises(InvalidHall, {"reason": "rooms", "index": 0}, glue, hall, room, room)

    def test_by_name(self):
        self.assertEqual(glue(other="b", one="a", hall=(("a", "b"), ())), (("a",), ()))


if __name__ == "__main__":
    unittest.main()
