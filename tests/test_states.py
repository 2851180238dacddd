"""Stage 2: states."""

import unittest

from tests.samples import (
    H, NAMES, NO_NAMES, NO_STRINGS, NO_TUPLES, S, Case, many_halls, nested, wide_hall, wide_state,
)
from turndoors.errors import InvalidState, UnknownWalker
from turndoors.halls import glue
from turndoors.states import WALKERS, counts, crowd, glue_state, room_of, validate_state

FACES = ("a", "b", "c")
TWINS = (("b", "a", "c"), (("y", "a", "b"), ("x", "b", "a"), ("w", "a", "b")))
EMPTY = (("a",), ())


class ValidateStateTest(Case):

    def refuses(self, reason, index, hall, value):
        self.raises(InvalidState, {"reason": reason, "index": index}, validate_state, hall, value)
        self.raises(InvalidState, {"reason": reason, "index": index}, validate_state, hall, value)

    def test_constant(self):
        self.assertEqual(WALKERS, 5)

    def test_states(self):
        self.gives(True, validate_state, H, S)
        self.gives(True, validate_state, EMPTY, ((), ()))
        self.gives(True, validate_state, EMPTY, ((), (("p", "a"), ("q", "a"))))
        for hall in many_halls():
            for walkers in range(6):
                self.gives(True, validate_state, hall, wide_state(hall, walkers))

    def test_each_door_may_face_each_of_its_ends(self):
        for one in "ab":
            for two in "bc":
                for three in "ac":
                    self.gives(True, validate_state, H, ((one, two, three), ()))

    def test_walkers_names(self):
        for name in NAMES:
            self.gives(True, validate_state, H, (FACES, ((name, "c"),)))
        self.gives(True, validate_state, H, (FACES, (("a", "c"), ("aa", "c"), ("ab", "a"), ("b", "c"), ("ba", "b"))))

    def test_example(self):
        self.refuses("face", 2, H, (("a", "b", "b"), ()))

    def test_form_of_the_whole(self):
        for value in NO_TUPLES:
            self.refuses("form", 0, H, value)
            self.refuses("form", 0, H, (value, ()))
            self.refuses("form", 0, H, (FACES, value))
        for value in ((), (FACES,), (FACES, (), ()), nested((FACES, ()), 1), nested("a", 12), nested((), 11)):
            self.refuses("form", 0, H, value)

    def test_lists_are_no_tuples(self):
        for value in ([FACES, ()], (list(FACES), ()), (FACES, []), (FACES, (["p", "a"],))):
            self.refuses("form", 0, H, value)

    def test_form_of_faces(self):
        for faces in ((), ("a",), ("a", "b"), ("a", "b", "c", "c"), "abc"):
            self.refuses("form", 0, H, (faces, ()))
        self.refuses("form", 0, EMPTY, (("a",), ()))
        for value in NO_STRINGS:
            for place in range(3):
                faces = list(FACES)
                faces[place] = value
                self.refuses("form", 0, H, (tuple(faces), ()))

    def test_form_of_places(self):
        for value in NO_TUPLES:
            self.refuses("form", 0, H, (FACES, (("p", "a"), value)))
        for place in ((), ("p",), ("p", "a", "a"), "pa"):
            self.refuses("form", 0, H, (FACES, (place,)))
        for value in NO_STRINGS:
            self.refuses("form", 0, H, (FACES, (("o", "a"), (value, "a"))))
            self.refuses("form", 0, H, (FACES, (("p", value),)))

    def test_numbers_of_walkers(self):
        places = tuple((name, "a") for name in "opqrst")
        self.gives(True, validate_state, H, (FACES, places[:5]))
        self.refuses("many", 0, H, (FACES, places))
        self.refuses("many", 0, H, (FACES, places * 5))

    def test_faces(self):
        for room in ("c", "d", "x", "A", "", "a ", "\na", "ab"):
            self.refuses("face", 0, H, ((room, "b", "c"), ()))
        self.refuses("face", 1, H, (("a", "a", "c"), ()))
        self.refuses("face", 1, H, (("b", "y", "c"), ()))
        self.refuses("face", 2, TWINS, (("a", "a", "c"), ()))

    def test_walkers(self):
        for name in NO_NAMES:
            self.refuses("walker", 0, H, (FACES, ((name, "a"),)))
            self.refuses("walker", 1, H, (FACES, (("a", "a"), (name, "a"))))

    def test_walkers_ascend(self):
        self.refuses("walker", 1, H, (FACES, (("p", "a"), ("p", "b"))))
        self.refuses("walker", 1, H, (FACES, (("q", "a"), ("p", "b"))))
        self.refuses("walker", 2, H, (FACES, (("p", "a"), ("q", "b"), ("p", "a"))))
        self.refuses("walker", 1, H, (FACES, (("b", "a"), ("aa", "b"))))
        self.refuses("walker", 1, H, (FACES, (("pa", "a"), ("p", "b"))))
        self.refuses("walker", 2, H, (FACES, (("o", "a"), ("q", "a"), ("p", "b"))))

    def test_rooms(self):
        for room in ("d", "x", "p", "A", "", "a ", "\na", "ab"):
            self.refuses("room", 0, H, (FACES, (("p", room),)))
            self.refuses("room", 1, H, (FACES, (("p", "a"), ("q", room))))

    def test_order_form_first(self):
        self.refuses("form", 0, H, (("c", "b", "c"), ((1, "a"),)))
        self.refuses("form", 0, H, (("c", "b"), (("P", "a"),)))
        self.refuses("form", 0, H, (FACES, tuple((name, "a") for name in "opqrs") + (("t", None),)))

    def test_order_many_before_faces(self):
        self.refuses("many", 0, H, (("c", "b", "c"), (("p", "a"),) * 6))

    def test_order_faces_before_places(self):
        self.refuses("face", 2, H, (("a", "b", "b"), (("P", "d"),)))
        self.refuses("face", 0, H, (("c", "a", "b"), ()))

    def test_order_place_by_place(self):
        self.refuses("walker", 0, H, (FACES, (("P", "d"), ("p", "a"))))
        self.refuses("room", 0, H, (FACES, (("p", "d"), ("p", "a"))))
        self.refuses("walker", 1, H, (FACES, (("p", "a"), ("p", "d"), ("q", "d"))))

    def test_by_name(self):
        self.assertIs(validate_state(value=S, hall=H), True)


class CountsTest(Case):

    def test_example(self):
        self.gives((0, 1, 1), counts, H, S)

    def test_order_of_the_hall(self):
        self.gives((2, 0, -1), counts, TWINS, (("b", "b", "a"), (("p", "a"), ("q", "c"))))
        self.gives((0, 3, 0), counts, TWINS, (("a", "a", "a"), ()))

    def test_negative(self):
        self.gives((-5,), counts, EMPTY, ((), tuple((name, "a") for name in "pqrst")))
        places = (("p", "a"), ("q", "a"), ("r", "a"), ("s", "a"), ("t", "b"))
        self.gives((-4, 0, 2), counts, H, (("b", "c", "c"), places))

    def test_no_doors_and_no_walkers(self):
        self.gives((0,), counts, EMPTY, ((), ()))
        self.gives((0, 0, 0), counts, (("c", "b", "a"), ()), ((), ()))

    def test_sum(self):
        for hall in many_halls():
            for walkers in range(6):
                state = wide_state(hall, walkers)
                self.assertEqual(sum(counts(hall, state)), len(hall[1]) - walkers)
                self.assertEqual(len(counts(hall, state)), len(hall[0]))

    def test_by_name(self):
        self.assertEqual(counts(state=S, hall=H), (0, 1, 1))


class CrowdTest(Case):

    def test_example(self):
        self.gives((1, 0, 0), crowd, H, S)

    def test_order_of_the_hall(self):
        self.gives((0, 1, 2), crowd, TWINS, (("b", "b", "a"), (("p", "c"), ("q", "a"), ("r", "c"))))

    def test_doors_do_not_matter(self):
        self.gives((0, 0, 1), crowd, H, (("b", "b", "a"), (("a", "c"),)))

    def test_no_walkers(self):
        self.gives((0, 0, 0), crowd, H, (FACES, ()))
        self.gives((0,), crowd, EMPTY, ((), ()))

    def test_five_walkers(self):
        self.gives((5,), crowd, EMPTY, ((), tuple((name, "a") for name in "pqrst")))
        hall = wide_hall(8, 12)
        self.gives((1, 1, 0, 1, 1, 0, 1, 0), crowd, hall, wide_state(hall, 5))

    def test_by_name(self):
        self.assertEqual(crowd(state=S, hall=H), (1, 0, 0))


class RoomOfTest(Case):

    def test_example(self):
        self.gives("a", room_of, S, "p")

    def test_each_walker(self):
        state = (FACES, (("a", "b"), ("b", "c"), ("c", "a")))
        self.gives("b", room_of, state, "a")
        self.gives("c", room_of, state, "b")
        self.gives("a", room_of, state, "c")

    def test_unknown_walker(self):
        for name in ("q", "a", "x", "", "P", "p ", "pp"):
            self.raises(UnknownWalker, {"name": name}, room_of, S, name)
        self.raises(UnknownWalker, {"name": "p"}, room_of, (FACES, ()), "p")

    def test_by_name(self):
        self.assertEqual(room_of(walker="p", state=S), "a")


class GlueStateTest(Case):

    def test_example(self):
        self.gives((("c",), (("p", "c"),)), glue_state, (("a",), (("p", "a"),)), "c", "a")

    def test_every_room_is_replaced(self):
        state = (("a", "b", "a", "c"), (("a", "a"), ("b", "c"), ("c", "a"), ("d", "b")))
        self.gives((("c", "b", "c", "c"), (("a", "c"), ("b", "c"), ("c", "c"), ("d", "b"))), glue_state, state, "c", "a")
        self.gives((("a", "b", "a", "a"), (("a", "a"), ("b", "a"), ("c", "a"), ("d", "b"))), glue_state, state, "a", "c")

    def test_nothing_to_replace(self):
        self.gives(S, glue_state, S, "a", "d")
        self.gives(S, glue_state, S, "b", "b")
        self.gives(((), ()), glue_state, ((), ()), "a", "b")

    def test_state_of_the_glued_hall(self):
        for hall in many_halls():
            for one in hall[0]:
                for other in hall[0]:
                    if one != other and not any({one, other} == set(ends) for _, *ends in hall[1]):
                        state = glue_state(wide_state(hall, 5), one, other)
                        self.assertTrue(validate_state(glue(hall, one, other), state))

    def test_by_name(self):
        self.assertEqual(glue_state(other="a", one="d", state=S), (("d", "b", "c"), (("p", "d"),)))


if __name__ == "__main__":
    unittest.main()
