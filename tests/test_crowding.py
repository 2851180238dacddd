"""Stage 9: crowding."""

import time
import unittest

from tests import answers, model
from tests.samples import H, NO_TUPLES, S, Case, changed, many_halls, nested, wide_state
from turndoors.crowding import is_most, most_in
from turndoors.errors import UnknownRoom
from turndoors.moves import reverse, run

LONE = (("a",), ())
BRIDGE = (("a", "b"), (("x", "a", "b"),))
PARALLEL = (("a", "b"), tuple((name, "a", "b") for name in "abcdefghijkl"))
FIVE = ("p", "q", "r", "s", "t")

NO_ROOMS = ("d", "x", "p", "", "A", "a ", "ab", "a\n")


def small_states():
    """Return the small halls, each with some of its states of up to three walkers."""
    return [pair for walkers in ("", "p", "pq", "pqr") for pair in model.small_states(walkers, 10)]


class CrowdingCase(Case):

    def check(self, hall, state, room, greatest=None):
        """Check what most_in answers by its own proof, and return the number."""
        result = self.answer(most_in, hall, state, room)
        self.assertEqual(len(result), 3)
        number, row, rooms = result
        self.assertIs(type(number), int)
        self.assertTrue(answers.is_most(hall, state, room, result, number))
        self.assertIs(is_most(hall, state, room, result), True)
        self.assertEqual(run(hall, run(hall, state, row), reverse(row)), state)
        if greatest is not None:
            self.assertEqual(number, greatest)
        return number


class MostInTest(CrowdingCase):

    def test_example(self):
        self.assertEqual(self.check(H, S, "b"), 1)
        self.assertTrue(answers.is_most(H, S, "b", (1, (("p", "x"),), ("b",)), 1))

    def test_against_all_states_that_can_be_reached(self):
        seen = set()
        for hall, state in small_states():
            for room in hall[0]:
                seen.add(self.check(hall, state, room, answers.most(hall, state, room)))
        self.assertEqual(seen, {0, 1, 2, 3})

    def test_five_walkers_against_all_states_that_can_be_reached(self):
        dice = model.Dice(81)
        for n in range(15):
            hall = dice.hall(3 + n % 3, 4)
            state = dice.state(hall, 5)
            for room in hall[0]:
                self.check(hall, state, room, answers.most(hall, state, room))

    def test_nobody_can_come(self):
        self.check(H, (S[0], ()), "a", 0)
        self.check(LONE, ((), ()), "a", 0)
        self.check(BRIDGE, (("b",), (("p", "a"), ("q", "a"))), "b", 0)
        self.check((("a", "b"), ()), ((), (("p", "a"),)), "b", 0)

    def test_all_stand_there_already(self):
        self.check(LONE, ((), tuple((name, "a") for name in FIVE)), "a", 5)
        self.check(BRIDGE, (("b",), (("p", "a"), ("q", "a"))), "a", 2)

    def test_one_door_lets_one_in(self):
        state = (("a",), tuple((name, "a") for name in FIVE))
        self.check(BRIDGE, state, "b", 1)
        self.check(BRIDGE, state, "a", 5)

    def test_parallel_doors(self):
        for facing in range(13):
            faces = ("a",) * facing + ("b",) * (12 - facing)
            state = (faces, tuple((name, "a") for name in FIVE))
            self.check(PARALLEL, state, "b", min(facing, 5))
            state = (faces, tuple((name, "b") for name in FIVE))
            self.check(PARALLEL, state, "a", min(12 - facing, 5))

    def test_a_walker_must_leave_the_nearest_way_to_another(self):
        # If p goes by the shortest way through m, then q's only way is the one that p has turned.
        hall = (("a", "b", "m", "n", "z"), (
            ("am", "a", "m"), ("bm", "b", "m"), ("mz", "m", "z"), ("an", "a", "n"), ("nz", "n", "z"),
        ))
        state = (("a", "b", "m", "a", "n"), (("p", "a"), ("q", "b")))
        self.check(hall, state, "z", 2)
        swapped = (hall[0], hall[1][3:] + hall[1][:3])
        self.check(swapped, (state[0][3:] + state[0][:3], state[1]), "z", 2)

    def test_a_walker_turns_another_ones_door_back(self):
        # All four rooms lie on p's way; q comes by the end of it only if p's pass is in part taken back.
        hall = (("s", "u", "v", "t"), (
            ("su", "s", "u"), ("sv", "s", "v"), ("uv", "u", "v"), ("ut", "u", "t"), ("vt", "v", "t"),
        ))
        faces = ("s", "s", "u", "u", "v")
        for places in ((("p", "s"), ("q", "s")), (("p", "s"), ("q", "u")), (("p", "u"), ("q", "v"))):
            self.check(hall, (faces, places), "t", 2)
        self.check(hall, (faces, (("p", "s"), ("q", "s"), ("r", "s"))), "t", 2)

    def test_large_halls(self):
        dice = model.Dice(82)
        states = [dice.hall_and_state() for _ in range(150)]
        states += [(hall, wide_state(hall, 5)) for hall in many_halls()]
        for _ in range(150):
            hall = dice.hall(8, 12)
            states.append((hall, dice.state(hall, 5)))
        numbers = {self.check(hall, state, room) for hall, state in states for room in hall[0]}
        self.assertEqual(numbers, {0, 1, 2, 3, 4, 5})

    def test_the_same_number_from_each_state_that_can_be_reached(self):
        dice = model.Dice(83)
        for _ in range(60):
            hall, state = dice.hall_and_state()
            there = model.lead(hall, state, dice.walk(hall, state, 20))
            for room in hall[0]:
                self.assertEqual(self.check(hall, there, room), self.check(hall, state, room))

    def test_an_answer_comes_quickly(self):
        dice = model.Dice(84)
        asked = []
        for _ in range(100):
            hall = dice.hall(8, 12)
            asked.append((hall, dice.state(hall, 5)))
        start = time.perf_counter()
        for hall, state in asked:
            for room in hall[0]:
                is_most(hall, state, room, most_in(hall, state, room))
        # It takes some tenths of a second.
        self.assertLess(time.perf_counter() - start, 20)

    def test_unknown_room(self):
        for name in NO_ROOMS:
            self.raises(UnknownRoom, {"name": name}, most_in, H, S, name)
        self.raises(UnknownRoom, {"name": "b"}, most_in, LONE, ((), ()), "b")

    def test_by_name(self):
        self.assertEqual(most_in(room="b", state=S, hall=H)[0], 1)


class IsMostTest(CrowdingCase):

    def test_example(self):
        self.gives(True, is_most, H, S, "b", (1, (("p", "x"),), ("b",)))

    def test_other_rows_and_other_rooms(self):
        long = (("p", "x"), ("p", "x"), ("p", "x"))
        self.gives(True, is_most, H, S, "b", (1, long, ("b",)))
        self.gives(True, is_most, H, S, "b", (1, long, ("c", "a", "b")))
        self.gives(True, is_most, H, S, "b", (1, long, ("b", "c", "a")))
        self.gives(False, is_most, H, S, "b", (1, long, ("a", "c")))
        self.gives(False, is_most, H, S, "b", (1, long[:2], ("b",)))
        self.gives(False, is_most, H, S, "b", (0, (), ("b",)))
        self.gives(False, is_most, H, S, "b", (1, (), ("b",)))

    def test_rows_that_cannot_be_done(self):
        for row in ((("p", "y"),), (("p", "x"), ("q", "x")), (("q", "x"),), (("p", "w"),), (("p", "x"), ("p", "z"))):
            self.gives(False, is_most, H, S, "b", (1, row, ("b",)))
        self.gives(False, is_most, H, S, "a", (1, (("p", "z"),), ("a", "b", "c")))

    def test_rows_of_another_form(self):
        odd = (("p", "x"), ("p",)), (("p", "x", "y"),), ("px",), "px", (("p", 1),), ((None, "x"),), (("p", ("x",)),), None, 0
        for row in odd:
            self.gives(False, is_most, H, S, "b", (1, row, ("b",)))
        for row in NO_TUPLES:
            self.gives(False, is_most, H, S, "a", (1, row, ("a", "b", "c")))
        self.gives(True, is_most, H, S, "a", (1, (), ("a", "b", "c")))

    def test_long_row(self):
        row = (("p", "x"), ("p", "y"), ("p", "z"), ("p", "z"), ("p", "y"), ("p", "x")) * 400
        self.gives(True, is_most, H, S, "a", (1, row, ("a", "b", "c")))
        self.gives(True, is_most, H, S, "b", (1, row + (("p", "x"),), ("b",)))
        self.gives(False, is_most, H, S, "b", (1, row, ("b",)))
        self.gives(False, is_most, H, S, "b", (1, row + (("p", "y"),), ("b",)))

    def test_booleans_in_place_of_numbers(self):
        self.gives(False, is_most, H, S, "b", (True, (("p", "x"),), ("b",)))
        self.gives(True, is_most, H, (S[0], ()), "b", (0, (), ("a", "b", "c")))
        self.gives(False, is_most, H, (S[0], ()), "b", (False, (), ("a", "b", "c")))

    def test_numbers_that_are_not_the_greatest(self):
        state = (("a", "a", "a") + ("b",) * 9, tuple((name, "a") for name in FIVE))
        row = (("p", "a"), ("q", "b"), ("r", "c"))
        for number in range(-1, 7):
            self.gives(number == 3, is_most, PARALLEL, state, "b", (number, row, ("b",)))
            self.gives(False, is_most, PARALLEL, state, "b", (number, row[:2], ("b",)))
        self.gives(False, is_most, PARALLEL, state, "b", (3, row, ("a", "b")))
        self.gives(False, is_most, PARALLEL, state, "b", (5, row, ("a", "b")))

    def test_rooms_of_other_kinds(self):
        for rooms in ((), ("a",), ("b", "b"), ("b", "d"), ("b", ""), ("b", 0), ("b", None), (("b",),), "b", ("b", True), None):
            self.gives(False, is_most, H, S, "b", (1, (("p", "x"),), rooms))

    def test_values_against_the_words(self):
        seen = set()
        dice = model.Dice(85)
        states = dice.random.sample(small_states(), 40)
        for hall, state in states:
            room = dice.random.choice(hall[0])
            greatest = answers.most(hall, state, room)
            values = [most_in(hall, state, room)]
            for row in ((), dice.walk(hall, state, 1), dice.walk(hall, state, 2), dice.walk(hall, state, 3)):
                for rooms in model.tuples_of_lots(hall[0], 1)[1::2]:
                    values.append((greatest, row, *rooms))
            for value in [*values, *changed(values[0])]:
                wanted = answers.is_most(hall, state, room, value, greatest)
                self.assertIs(is_most(hall, state, room, value), wanted, value)
                seen.add(wanted)
        self.assertEqual(seen, {True, False})

    def test_values_of_other_kinds(self):
        value = (1, (("p", "x"),), ("b",))
        for other in NO_TUPLES + (
            (), value[:2], value[1:], value + ((),), value * 2, (value,), value[::-1], nested(1, 12), nested((), 12),
        ):
            self.gives(False, is_most, H, S, "b", other)

    def test_unknown_room_whatever_the_value_is(self):
        for name in NO_ROOMS:
            for value in (None, (), True, 0, (1, (("p", "x"),), ("b",)), (1, (("p", "x"),), (name,)), nested("", 12)):
                self.raises(UnknownRoom, {"name": name}, is_most, H, S, name, value)

    def test_by_name(self):
        self.assertIs(is_most(value=(1, (("p", "x"),), ("b",)), room="b", state=S, hall=H), True)


if __name__ == "__main__":
    unittest.main()
