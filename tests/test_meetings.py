"""Stage 7: meetings."""

import itertools
import time
import unittest

from tests import model
from tests.samples import H, S, Case, many_halls, wide_state
from turndoors.bands import is_enclosure
from turndoors.errors import NotRing, UnknownDoor, UnknownRoom, UnknownWalker
from turndoors.meetings import bring, meet, swap, turn_ring
from turndoors.moves import reverse, run
from turndoors.states import room_of

LONE = (("a",), ())
BRIDGE = (("a", "b"), (("x", "a", "b"),))
TWINS = (("c", "b", "a"), (("z", "b", "a"), ("x", "a", "b"), ("y", "a", "b")))

# Door y faces away from p and q, so their ground is a and b; r stands alone in d.
SPLIT = (("a", "b", "c", "d"), (("x", "a", "b"), ("y", "b", "c"), ("z", "c", "d")))
SPLIT_STATE = (("a", "c", "c"), (("p", "a"), ("q", "b"), ("r", "d")))

# Neighbours among the walkers have reaches with a common room, and others have not.
ROOMS = ("a", "b", "c", "d", "e", "f", "g", "h")
CHAIN = (ROOMS, tuple((one + other, one, other) for one, other in zip(ROOMS, ROOMS[1:])))
CHAINED = (("a", "c", "c", "e", "e", "g", "g"), tuple(zip("pqrst", ("a", "c", "e", "g", "h"))))

NO_WALKERS = ("o", "a", "x", "", "P", "p ", "pp", "p\n")
NO_ROOMS = ("d", "x", "p", "", "A", "a ", "ab", "a\n")
NO_DOORS = ("w", "a", "p", "", "X", "x ", "xy", "x\n")


def large_states(seed, many):
    """Return halls of all sizes, each with a state."""
    dice = model.Dice(seed)
    found = [dice.hall_and_state() for _ in range(many)]
    return found + [(hall, wide_state(hall, 5)) for hall in many_halls()] + [(CHAIN, CHAINED)]


class MeetingCase(Case):

    def look(self, call, hall, state, *args, rooms):
        """Check the result as far as all four functions have it in common.

        Return the state to which the row leads, or None for an enclosure that has no lot with all of the rooms.
        """
        result = self.answer(call, hall, state, *args)
        self.assertEqual(len(result), 2)
        if result[0] == "row":
            there = model.lead(hall, state, result[1])
            self.assertIsInstance(there, tuple)
            self.assertEqual(run(hall, there, reverse(result[1])), state)
            return there
        self.assertEqual(result[0], "apart")
        self.assertIs(is_enclosure(hall, state, result[1]), True)
        self.assertTrue(model.is_enclosure(hall, state, result[1]))
        self.assertFalse(any(set(rooms) <= set(lot) for lot in result[1]))
        return None

    def check_bring(self, hall, state, walker, room):
        """Check what bring answers, and return whether it is a row."""
        there = self.look(bring, hall, state, walker, room, rooms=[room_of(state, walker), room])
        if there is not None:
            self.assertEqual(room_of(there, walker), room)
        return there is not None

    def check_swap(self, hall, state, one, other):
        """Check what swap answers, and return whether it is a row."""
        places = dict(state[1])
        there = self.look(swap, hall, state, one, other, rooms=[places[one], places[other]])
        if there is not None:
            places[one], places[other] = places[other], places[one]
            self.assertEqual(there, (state[0], tuple(sorted(places.items()))))
        return there is not None

    def check_meet(self, hall, state, one, other):
        """Check what meet answers, and return whether it is a row."""
        there = self.look(meet, hall, state, one, other, rooms=[room_of(state, one), room_of(state, other)])
        if there is not None:
            self.assertEqual(room_of(there, one), room_of(there, other))
        return there is not None

    def check_ring(self, hall, state, doors):
        """Check what turn_ring answers, and return whether it is a row."""
        names = [door[0] for door in hall[1]]
        faces = dict(zip(names, state[0]))
        there = self.look(turn_ring, hall, state, doors, rooms=[faces[door] for door in doors])
        self.assertEqual(turn_ring(hall, state, list(doors)), turn_ring(hall, state, tuple(doors)))
        if there is not None:
            turned = [name for name, one, other in zip(names, state[0], there[0]) if one != other]
            self.assertEqual(sorted(turned), sorted(doors))
            self.assertEqual(there[1], state[1])
        return there is not None


class BringTest(MeetingCase):

    def test_example(self):
        kind, row = self.answer(bring, H, S, "p", "c")
        self.assertEqual((kind, room_of(run(H, S, row), "p")), ("row", "c"))

    def test_own_room(self):
        self.assertTrue(self.check_bring(H, S, "p", "a"))
        self.assertTrue(self.check_bring(LONE, ((), (("p", "a"),)), "p", "a"))
        self.assertTrue(self.check_bring(SPLIT, SPLIT_STATE, "r", "d"))

    def test_rooms_that_are_apart(self):
        grounds = {"p": "ab", "q": "ab", "r": "d"}
        for walker, room in itertools.product("pqr", "abcd"):
            self.assertEqual(self.check_bring(SPLIT, SPLIT_STATE, walker, room), room in grounds[walker])
        self.gives(("apart", (("a", "b"), ("d",))), bring, SPLIT, SPLIT_STATE, "p", "c")

    def test_room_that_only_others_of_the_band_can_come_to(self):
        state = (("a",), (("p", "a"), ("q", "b")))
        self.assertTrue(self.check_bring(BRIDGE, state, "q", "a"))
        self.assertFalse(self.check_bring(BRIDGE, (("a",), (("q", "b"),)), "q", "a"))
        for walker, _ in CHAINED[1]:
            for room in ROOMS:
                self.assertTrue(self.check_bring(CHAIN, CHAINED, walker, room))

    def test_against_all_states_that_can_be_reached(self):
        seen = set()
        for walkers in ("p", "pq", "pqr"):
            for hall, state in model.small_states(walkers, 6):
                found = model.reachable(hall, state)
                for walker in walkers:
                    for room in hall[0]:
                        wanted = any(dict(places)[walker] == room for _, places in found)
                        self.assertEqual(self.check_bring(hall, state, walker, room), wanted)
                        seen.add(wanted)
        self.assertEqual(seen, {True, False})

    def test_large_halls(self):
        for hall, state in large_states(61, 120):
            grounds = {walker: ground for walkers, ground in model.bands(hall, state) for walker in walkers}
            for walker, ground in grounds.items():
                for room in hall[0]:
                    self.assertEqual(self.check_bring(hall, state, walker, room), room in ground)

    def test_errors_in_their_order(self):
        for name in NO_WALKERS:
            self.raises(UnknownWalker, {"name": name}, bring, H, S, name, "a")
            self.raises(UnknownWalker, {"name": name}, bring, H, S, name, "w")
        for name in NO_ROOMS:
            self.raises(UnknownRoom, {"name": name}, bring, H, S, "p", name)
        self.raises(UnknownWalker, {"name": "p"}, bring, LONE, ((), ()), "p", "a")

    def test_by_name(self):
        self.assertEqual(bring(room="a", walker="p", state=S, hall=H), bring(H, S, "p", "a"))


class SwapTest(MeetingCase):

    def test_example(self):
        state = (("a",), (("p", "a"), ("q", "b")))
        kind, row = self.answer(swap, BRIDGE, state, "p", "q")
        self.assertEqual((kind, run(BRIDGE, state, row)), ("row", (("a",), (("p", "b"), ("q", "a")))))

    def test_same_walker(self):
        for hall, state in [(H, S), (SPLIT, SPLIT_STATE), (CHAIN, CHAINED)]:
            for walker, _ in state[1]:
                self.assertTrue(self.check_swap(hall, state, walker, walker))

    def test_walkers_in_one_room(self):
        self.assertTrue(self.check_swap(LONE, ((), (("p", "a"), ("q", "a"))), "p", "q"))
        self.assertTrue(self.check_swap(BRIDGE, (("b",), (("p", "a"), ("q", "a"))), "q", "p"))

    def test_walkers_that_are_apart(self):
        for one, other in itertools.product("pqr", repeat=2):
            self.assertEqual(self.check_swap(SPLIT, SPLIT_STATE, one, other), (one == "r") == (other == "r"))
        self.gives(("apart", (("a", "b"), ("d",))), swap, SPLIT, SPLIT_STATE, "r", "q")

    def test_walkers_with_others_between_them(self):
        for one, other in itertools.product("pqrst", repeat=2):
            self.assertTrue(self.check_swap(CHAIN, CHAINED, one, other))

    def test_against_all_states_that_can_be_reached(self):
        seen = set()
        for walkers in ("pq", "pqr"):
            for hall, state in model.small_states(walkers, 9):
                found = model.reachable(hall, state)
                for one, other in itertools.product(walkers, repeat=2):
                    places = dict(state[1])
                    places[one], places[other] = places[other], places[one]
                    wanted = (state[0], tuple(sorted(places.items()))) in found
                    self.assertEqual(self.check_swap(hall, state, one, other), wanted)
                    seen.add(wanted)
        self.assertEqual(seen, {True, False})

    def test_large_halls(self):
        for hall, state in large_states(62, 120):
            for walkers, _ in model.bands(hall, state):
                for one in walkers:
                    for other, _ in state[1]:
                        self.assertEqual(self.check_swap(hall, state, one, other), other in walkers)

    def test_errors_in_their_order(self):
        for name in NO_WALKERS:
            self.raises(UnknownWalker, {"name": name}, swap, H, S, name, "p")
            self.raises(UnknownWalker, {"name": name}, swap, H, S, name, "zz")
            self.raises(UnknownWalker, {"name": name}, swap, H, S, name, name)
            self.raises(UnknownWalker, {"name": name}, swap, H, S, "p", name)

    def test_by_name(self):
        self.assertEqual(swap(other="p", one="p", state=S, hall=H), swap(H, S, "p", "p"))


class MeetTest(MeetingCase):

    def test_example(self):
        state = (("b",), (("p", "a"), ("q", "a")))
        self.assertEqual(self.answer(meet, BRIDGE, state, "p", "q")[0], "row")
        self.assertTrue(self.check_meet(BRIDGE, state, "p", "q"))

    def test_same_walker(self):
        for hall, state in [(H, S), (SPLIT, SPLIT_STATE), (CHAIN, CHAINED)]:
            for walker, _ in state[1]:
                self.assertTrue(self.check_meet(hall, state, walker, walker))

    def test_walkers_that_are_apart(self):
        for one, other in itertools.product("pqr", repeat=2):
            self.assertEqual(self.check_meet(SPLIT, SPLIT_STATE, one, other), (one == "r") == (other == "r"))
        self.gives(("apart", (("a", "b"), ("d",))), meet, SPLIT, SPLIT_STATE, "p", "r")

    def test_walkers_with_others_between_them(self):
        for one, other in itertools.product("pqrst", repeat=2):
            self.assertTrue(self.check_meet(CHAIN, CHAINED, one, other))

    def test_against_all_states_that_can_be_reached(self):
        seen = set()
        for walkers in ("pq", "pqr"):
            for hall, state in model.small_states(walkers, 9):
                found = [dict(places) for _, places in model.reachable(hall, state)]
                for one, other in itertools.product(walkers, repeat=2):
                    wanted = any(places[one] == places[other] for places in found)
                    self.assertEqual(self.check_meet(hall, state, one, other), wanted)
                    seen.add(wanted)
        self.assertEqual(seen, {True, False})

    def test_large_halls(self):
        for hall, state in large_states(63, 120):
            for walkers, _ in model.bands(hall, state):
                for one in walkers:
                    for other, _ in state[1]:
                        self.assertEqual(self.check_meet(hall, state, one, other), other in walkers)

    def test_errors_in_their_order(self):
        for name in NO_WALKERS:
            self.raises(UnknownWalker, {"name": name}, meet, H, S, name, "p")
            self.raises(UnknownWalker, {"name": name}, meet, H, S, name, "zz")
            self.raises(UnknownWalker, {"name": name}, meet, H, S, name, name)
            self.raises(UnknownWalker, {"name": name}, meet, H, S, "p", name)

    def test_by_name(self):
        self.assertEqual(meet(other="p", one="p", state=S, hall=H)[0], "row")


def is_ring(hall, state, doors):
    """Tell whether the doors are a ring, by the words of the document."""
    names = [door[0] for door in hall[1]]
    if len(doors) < 2 or len(set(doors)) < len(doors):
        return False
    rooms = [state[0][names.index(door)] for door in doors]
    if len(set(rooms)) < len(rooms):
        return False
    for door, room, following in zip(doors, rooms, rooms[1:] + rooms[:1]):
        ends = hall[1][names.index(door)][1:]
        if set(ends) != {room, following}:
            return False
    return True


class TurnRingTest(MeetingCase):

    def test_example(self):
        kind, row = self.answer(turn_ring, H, S, ("x", "y", "z"))
        self.assertEqual((kind, run(H, S, row)), ("row", (("b", "c", "a"), (("p", "a"),))))

    def test_from_each_door_of_the_ring(self):
        for doors in (("x", "y", "z"), ("y", "z", "x"), ("z", "x", "y")):
            for room in "abc":
                self.assertTrue(self.check_ring(H, (S[0], (("p", room),)), doors))
            self.assertFalse(self.check_ring(H, (S[0], ()), doors))

    def test_the_other_way_round(self):
        state = (("b", "c", "a"), (("p", "b"),))
        self.assertTrue(self.check_ring(H, state, ("x", "z", "y")))
        self.raises(NotRing, {}, turn_ring, H, state, ("x", "y", "z"))

    def test_ring_of_two_doors(self):
        state = (("a", "b", "a"), (("p", "a"),))
        for doors in (("z", "x"), ("x", "z"), ("x", "y"), ("y", "x")):
            self.assertTrue(self.check_ring(TWINS, state, doors))
            self.assertFalse(self.check_ring(TWINS, (state[0], ()), doors))
            self.assertFalse(self.check_ring(TWINS, (state[0], (("p", "c"),)), doors))
        self.raises(NotRing, {}, turn_ring, TWINS, state, ("z", "y"))

    def test_ring_to_which_a_walker_has_to_come(self):
        hall = (("a", "b", "c", "d", "e"), H[1] + (("w", "d", "e"), ("v", "e", "a")))
        faces = ("a", "b", "c", "d", "e")
        self.assertTrue(self.check_ring(hall, (faces, (("p", "d"),)), ("y", "z", "x")))
        self.assertTrue(self.check_ring(hall, (faces, (("p", "e"), ("q", "d"))), ("y", "z", "x")))
        self.assertFalse(self.check_ring(hall, (faces[:4] + ("a",), (("p", "d"),)), ("y", "z", "x")))
        self.assertFalse(self.check_ring(hall, (faces[:3] + ("e", "e"), (("p", "d"),)), ("y", "z", "x")))

    def test_ring_of_eight_doors(self):
        doors = tuple((one + one, one, other) for one, other in zip(ROOMS, ROOMS[1:] + ROOMS[:1]))
        for places in ((), (("p", "c"),), CHAINED[1]):
            for order in (doors, doors[::-1], doors[3:] + doors[:3]):
                state = (tuple(door[1] for door in order), places)
                ring = [door[0] for door in doors]
                for at in range(8):
                    self.assertEqual(self.check_ring((ROOMS, order), state, ring[at:] + ring[:at]), places != ())

    def test_what_is_no_ring(self):
        wrong = [
            (), ("x",), ("x", "x"), ("x", "x", "x"), ("x", "y"), ("y", "x"), ("x", "z"), ("y", "z"), ("x", "z", "y"),
            ("z", "y", "x"), ("x", "y", "z", "x"), ("x", "y", "z", "x", "y", "z"), ("x", "y", "y", "z"),
            ("x", "y", "z") * 4, ("x",) * 12,
        ]
        for doors in wrong:
            self.raises(NotRing, {}, turn_ring, H, S, doors)
            self.raises(NotRing, {}, turn_ring, H, S, list(doors))

    def test_a_room_twice(self):
        # The doors go round through b twice; each of them faces a room and leads to the next.
        hall = (("a", "b", "c", "d", "e"), (
            ("s", "a", "b"), ("t", "b", "c"), ("u", "c", "b"), ("v", "b", "d"), ("w", "d", "a"), ("x", "c", "d"),
        ))
        state = (("a", "b", "c", "b", "d", "c"), (("p", "a"),))
        for doors in (("s", "t", "u", "v", "w"), ("t", "u", "v", "w", "s"), ("t", "u", "t", "u")):
            self.raises(NotRing, {}, turn_ring, hall, state, doors)
            self.raises(NotRing, {}, turn_ring, hall, state, list(doors))
        for doors in (("t", "u"), ("u", "t"), ("s", "v", "w"), ("s", "t", "x", "w")):
            self.assertTrue(self.check_ring(hall, state, doors))

    def test_unknown_door_before_no_ring(self):
        for name in NO_DOORS:
            for doors in ((name,), (name, name), ("x", name), ("x", "x", name), ("x", "y", "z", name), (name, "x", "zz")):
                self.raises(UnknownDoor, {"name": name}, turn_ring, H, S, doors)
                self.raises(UnknownDoor, {"name": name}, turn_ring, H, S, list(doors))
        self.raises(UnknownDoor, {"name": "x"}, turn_ring, LONE, ((), ()), ["x"])
        self.raises(NotRing, {}, turn_ring, LONE, ((), ()), [])

    def test_against_the_words(self):
        seen = set()
        for walkers in ("", "p", "pq"):
            for hall, state in model.small_states(walkers, 4):
                found = None
                names = [door[0] for door in hall[1]]
                for size in range(len(names) + 1):
                    for doors in itertools.permutations(names, size):
                        if not is_ring(hall, state, doors):
                            self.raises(NotRing, {}, turn_ring, hall, state, doors)
                            continue
                        found = found or model.reachable(hall, state)
                        faces = tuple(
                            ({one: other, other: one}[face] if name in doors else face)
                            for (name, one, other), face in zip(hall[1], state[0])
                        )
                        wanted = (faces, state[1]) in found
                        self.assertEqual(self.check_ring(hall, state, doors), wanted)
                        seen.add(wanted)
        self.assertEqual(seen, {True, False})

    def test_large_halls(self):
        seen = set()
        for hall, state in large_states(64, 150):
            reached = set().union(*model.reaches(hall, state).values())
            for size in (2, 3, 4):
                for doors in itertools.permutations([door[0] for door in hall[1]][:8], size):
                    if is_ring(hall, state, doors):
                        names = [door[0] for door in hall[1]]
                        wanted = state[0][names.index(doors[0])] in reached
                        self.assertEqual(self.check_ring(hall, state, doors), wanted)
                        seen.add(wanted)
        self.assertEqual(seen, {True, False})

    def test_by_name(self):
        self.assertEqual(turn_ring(doors=["x", "y", "z"], state=S, hall=H)[0], "row")


class SpeedTest(MeetingCase):

    def test_an_answer_comes_quickly(self):
        dice = model.Dice(65)
        asked = []
        for _ in range(60):
            hall = dice.hall(8, 12)
            asked.append((hall, dice.state(hall, 5)))
        start = time.perf_counter()
        for hall, state in asked:
            for walker, _ in state[1]:
                bring(hall, state, walker, hall[0][0])
                swap(hall, state, "aw", walker)
                meet(hall, state, walker, "ew")
        # It takes some tenths of a second.
        self.assertLess(time.perf_counter() - start, 20)


if __name__ == "__main__":
    unittest.main()
