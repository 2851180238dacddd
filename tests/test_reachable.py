"""Stage 8: all states that can be reached."""

import itertools
import math
import time
import unittest

from tests import model
from tests.samples import H, NO_STRINGS, NO_TUPLES, S, Case, nested, wide_hall, wide_state
from turndoors import reachable
from turndoors.bands import still_doors
from turndoors.errors import InvalidState, TooMany
from turndoors.reachable import all_states, count_states, crowd_for
from turndoors.states import counts, crowd, validate_state

LONE = (("a",), ())
BRIDGE = (("a", "b"), (("x", "a", "b"),))
EMPTY = (("c", "a", "b"), ())
PARALLEL = (("a", "b"), tuple((name, "a", "b") for name in "abcdefghijkl"))
FIVE = ("p", "q", "r", "s", "t")

# Door y faces away from p and q, so their ground is a and b; r stands alone in d.
SPLIT = (("a", "b", "c", "d"), (("x", "a", "b"), ("y", "b", "c"), ("z", "c", "d")))
SPLIT_STATE = (("a", "c", "c"), (("p", "a"), ("q", "b"), ("r", "d")))

ALL_OF_S = [
    (("a", "b", "c"), (("p", "a"),)), (("b", "b", "c"), (("p", "b"),)),
    (("b", "c", "a"), (("p", "a"),)), (("b", "c", "c"), (("p", "c"),)),
]


def small_states():
    """Return the small halls, each with some of its states of up to three walkers."""
    return [pair for walkers in ("", "p", "pq", "pqr") for pair in model.small_states(walkers, 12)]


def middle_states(seed, many):
    """Return halls of a middle size with up to five walkers, of which all states can be tried."""
    dice = model.Dice(seed)
    found = []
    while len(found) < many:
        hall, state = dice.hall_and_state(rooms=5, doors=6)
        if count_states(hall, state) < 3000:
            found.append((hall, state))
    return found


class CountStatesTest(Case):

    def test_example(self):
        self.gives(4, count_states, H, S)

    def test_against_all_deeds(self):
        for hall, state in small_states() + middle_states(71, 60):
            self.gives(len(model.reachable(hall, state)), count_states, hall, state)

    def test_no_doors(self):
        for hall in (LONE, EMPTY):
            self.gives(1, count_states, hall, ((), ()))
            self.gives(1, count_states, hall, ((), (("p", "a"), ("q", "a"))))

    def test_no_walkers(self):
        self.gives(1, count_states, H, (S[0], ()))
        hall = wide_hall(8, 12)
        self.gives(1, count_states, hall, wide_state(hall, 0))

    def test_several_bands(self):
        self.gives(3, count_states, SPLIT, SPLIT_STATE)
        hall = (tuple("abcdef"), (("x", "a", "b"), ("y", "c", "d"), ("z", "e", "f")))
        state = (("a", "c", "e"), (("p", "a"), ("q", "c"), ("r", "e")))
        self.gives(8, count_states, hall, state)

    def test_parallel_doors(self):
        for facing in range(13):
            faces = ("a",) * facing + ("b",) * (12 - facing)
            for there in range(6):
                state = (faces, tuple(zip(FIVE, "a" * there + "b" * (5 - there))))
                # Of 12 doors and 5 walkers, always as many face the room a or stand in the room b.
                self.assertEqual(count_states(PARALLEL, state), math.comb(17, facing + 5 - there))
        state = (("a", "b") * 6, tuple(zip(FIVE, "ababa")))
        self.gives(math.comb(17, 8), count_states, PARALLEL, state)

    def test_the_same_from_each_state_that_can_be_reached(self):
        for hall, state in middle_states(72, 20):
            number = count_states(hall, state)
            for there in sorted(model.reachable(hall, state))[::1 + number // 8]:
                self.assertEqual(count_states(hall, there), number)

    def test_a_number_comes_quickly(self):
        dice = model.Dice(73)
        asked = [(PARALLEL, (("a", "b") * 6, tuple(zip(FIVE, "ababa"))))]
        for _ in range(60):
            hall = dice.hall(8, 12)
            asked.append((hall, dice.state(hall, 5)))
        start = time.perf_counter()
        numbers = [count_states(hall, state) for hall, state in asked]
        # It takes some tenths of a second. Large halls have many thousands of states.
        self.assertLess(time.perf_counter() - start, 20)
        self.assertGreater(max(numbers), 20000)

    def test_by_name(self):
        self.assertEqual(count_states(state=S, hall=H), 4)


class AllStatesTest(Case):

    def check(self, hall, state, *args, **named):
        """Check the list against all deeds tried from state to state, and return it."""
        before = repr((hall, state))
        result = all_states(hall, state, *args, **named)
        self.assertIs(type(result), list)
        self.assertEqual(repr(result), repr(sorted(model.reachable(hall, state))))
        self.assertEqual(len(set(result)), len(result))
        for there in result:
            self.assertIs(validate_state(hall, there), True)
        again = all_states(hall, state, *args, **named)
        self.assertEqual(again, result)
        self.assertIsNot(again, result)
        again.clear()
        self.assertEqual(all_states(hall, state, *args, **named), result)
        self.assertEqual(repr((hall, state)), before)
        return result

    def test_constant(self):
        self.assertEqual(reachable.STATES, 5000)

    def test_example(self):
        self.assertEqual(self.check(H, S), ALL_OF_S)

    def test_against_all_deeds(self):
        for hall, state in small_states()[::3] + middle_states(74, 40):
            self.check(hall, state)

    def test_no_doors_and_no_walkers(self):
        for hall in (LONE, EMPTY):
            for places in ((), (("p", "a"), ("q", "a"))):
                self.assertEqual(self.check(hall, ((), places), most=1), [((), places)])
        self.assertEqual(self.check(H, (S[0], ()), most=1), [(S[0], ())])

    def test_walkers_who_stand_together(self):
        for places in ((("p", "a"), ("q", "a")), (("p", "a"), ("q", "b")), (("p", "b"), ("q", "b"), ("r", "b"))):
            for face in "ab":
                self.check(BRIDGE, ((face,), places))

    def test_rooms_and_doors_in_any_order(self):
        hall = (("c", "a", "b"), (("z", "c", "a"), ("x", "b", "a"), ("y", "c", "b")))
        self.assertEqual(self.check(hall, (("c", "a", "b"), (("p", "a"),)))[0], (("a", "b", "c"), (("p", "a"),)))

    def test_most(self):
        for most in range(1, 8):
            if most < 4:
                self.raises(TooMany, {"count": 4}, all_states, H, S, most=most)
            else:
                self.assertEqual(self.check(H, S, most=most), ALL_OF_S)
        self.assertEqual(self.check(H, S, most=5000), ALL_OF_S)

    def test_most_against_all_deeds(self):
        for hall, state in middle_states(75, 30):
            number = len(model.reachable(hall, state))
            self.assertEqual(len(all_states(hall, state, most=number)), number)
            if number > 1:
                self.raises(TooMany, {"count": number}, all_states, hall, state, most=number - 1)
                self.raises(TooMany, {"count": number}, all_states, hall, state, most=1)

    def test_most_omitted(self):
        state = (("a", "b") * 6, tuple(zip(FIVE, "ababa")))
        self.raises(TooMany, {"count": 24310}, all_states, PARALLEL, state)
        self.raises(TooMany, {"count": 24310}, all_states, PARALLEL, state, most=5000)
        hall = (PARALLEL[0], PARALLEL[1][:10])
        state = (("a", "b") * 5, tuple(zip(FIVE, "ababa")))
        self.raises(TooMany, {"count": 6435}, all_states, hall, state)
        hall = (PARALLEL[0], PARALLEL[1][:9])
        state = (("a", "b") * 4 + ("a",), tuple(zip(FIVE, "ababa")))
        self.assertEqual(len(self.check(hall, state)), 3432)

    def test_number_at_the_bound(self):
        # Two bands in two halls of parallel doors: each state of the one goes with each state of the other.
        rooms = tuple("abcdef")
        doors = tuple((name, "a", "b") for name in "stuvw") + tuple((name, "c", "d") for name in "klmn")
        faces = ("a", "b", "a", "b", "a", "c", "d", "c", "d")
        places = (("p", "a"), ("q", "b"), ("r", "c"), ("s", "d"))
        state = (faces, places)
        number = count_states((rooms, doors), state)
        self.assertEqual(number, math.comb(7, 3) * math.comb(6, 3))
        self.assertEqual(len(all_states((rooms, doors), state, most=number)), number)
        self.raises(TooMany, {"count": number}, all_states, (rooms, doors), state, most=number - 1)

    def test_most_is_passed_by_name_only(self):
        with self.assertRaises(TypeError):
            all_states(H, S, 4)

    def test_too_many_comes_quickly(self):
        dice = model.Dice(76)
        start = time.perf_counter()
        for _ in range(40):
            hall = dice.hall(8, 12)
            state = dice.state(hall, 5)
            number = count_states(hall, state)
            if number > 5000:
                self.raises(TooMany, {"count": number}, all_states, hall, state)
            else:
                self.assertEqual(len(all_states(hall, state)), number)
        self.assertLess(time.perf_counter() - start, 20)

    def test_by_name(self):
        self.assertEqual(all_states(most=4, state=S, hall=H), ALL_OF_S)


class CrowdForTest(Case):

    def wanted(self, hall, state, faces):
        """Return the answer by the words of the document."""
        still = model.still(hall, state)
        for door, face, then in zip(hall[1], state[0], faces):
            if door[0] in still and face != then:
                return ("still", door[0])
        numbers = [faces.count(room) - count for room, count in model.room_counts(hall, state).items()]
        for room, number in zip(hall[0], numbers):
            if number < 0:
                return ("below", room, number)
        return ("crowd", tuple(numbers))

    def test_example(self):
        self.gives(("crowd", (0, 1, 0)), crowd_for, H, S, ("b", "b", "c"))

    def test_each_answer(self):
        self.gives(("crowd", (1, 0, 0)), crowd_for, H, S, S[0])
        self.gives(("below", "b", -1), crowd_for, H, S, ("a", "c", "c"))
        self.gives(("below", "c", -1), crowd_for, H, S, ("b", "b", "a"))
        self.gives(("still", "y"), crowd_for, SPLIT, SPLIT_STATE, ("a", "b", "d"))
        self.gives(("still", "z"), crowd_for, SPLIT, SPLIT_STATE, ("b", "c", "d"))
        self.gives(("crowd", (0, 2, 0, 1)), crowd_for, SPLIT, SPLIT_STATE, ("b", "c", "c"))
        self.gives(("crowd", (0,)), crowd_for, LONE, ((), ()), ())
        self.gives(("crowd", (2,)), crowd_for, LONE, ((), (("p", "a"), ("q", "a"))), ())

    def test_still_before_below(self):
        hall = (("c", "b", "a", "d"), (("x", "a", "b"), ("y", "b", "c"), ("w", "c", "a"), ("z", "c", "d")))
        state = (("a", "b", "c", "c"), (("p", "a"),))
        self.gives(("still", "z"), crowd_for, hall, (("a", "b", "a", "c"), (("p", "d"),)), ("a", "b", "a", "d"))
        self.assertEqual(model.still(hall, state), ())
        self.gives(("below", "c", -1), crowd_for, hall, state, ("a", "b", "a", "c"))

    def test_first_room_below_in_the_order_of_the_hall(self):
        # Each door that faces c leaves the other rooms without.
        for rooms in itertools.permutations("abc"):
            hall = (rooms, (("x", "a", "b"), ("y", "b", "c"), ("z", "a", "c"), ("w", "b", "c")))
            state = (("a", "b", "c", "c"), (("p", "a"),))
            self.assertEqual(model.still(hall, state), ())
            faces = ("b", "c", "c", "c")
            result = self.wanted(hall, state, faces)
            self.gives(result, crowd_for, hall, state, faces)
            for faces in itertools.product(*[door[1:] for door in hall[1]]):
                self.gives(self.wanted(hall, state, faces), crowd_for, hall, state, faces)

    def test_against_the_words_and_all_states(self):
        kinds = set()
        for hall, state in small_states()[::2]:
            crowds = {}
            for faces, places in model.reachable(hall, state):
                crowds.setdefault(faces, set()).add(crowd(hall, (faces, places)))
            for faces in itertools.product(*[door[1:] for door in hall[1]]):
                result = self.answer(crowd_for, hall, state, faces)
                self.assertEqual(repr(result), repr(self.wanted(hall, state, faces)))
                self.assertEqual(result[0] == "crowd", faces in crowds)
                if faces in crowds:
                    self.assertEqual({result[1]}, crowds[faces])
                kinds.add(result[0])
        self.assertEqual(kinds, {"still", "below", "crowd"})

    def test_large_halls(self):
        dice = model.Dice(77)
        for _ in range(500):
            hall, state = dice.hall_and_state()
            there = model.lead(hall, state, dice.walk(hall, state, 30))
            self.gives(("crowd", crowd(hall, there)), crowd_for, hall, state, there[0])
            faces = dice.state(hall, 0)[0]
            self.gives(self.wanted(hall, state, faces), crowd_for, hall, state, faces)

    def test_values_of_another_form(self):
        odd = NO_TUPLES + tuple((S[0][0], item, S[0][2]) for item in NO_STRINGS) + (
            (), ("a",), ("a", "b"), ("a", "b", "c", "a"), (S[0],), S, "abc", ("abc",), nested("a", 12), nested((), 12),
            ("a", "b", None), (None, "b", "c"), (True, "b", "c"), ("a", 0, "c"), ("z", "z", ("c",)), ("", "", 1),
        )
        for value in odd:
            self.raises(InvalidState, {"reason": "form", "index": 0}, crowd_for, H, S, value)
        for value in (None, "", ("a",), ("",), 0, False, ((),)):
            self.raises(InvalidState, {"reason": "form", "index": 0}, crowd_for, LONE, ((), ()), value)

    def test_strings_that_are_no_ends(self):
        for at in range(3):
            for name in ("", "d", "x", "A", "a ", "ab", "a\n", "abc"[at - 1 if at != 1 else 0] + "b"):
                faces = S[0][:at] + (name,) + S[0][at + 1:]
                self.raises(InvalidState, {"reason": "face", "index": at}, crowd_for, H, S, faces)
        self.raises(InvalidState, {"reason": "face", "index": 0}, crowd_for, H, S, ("c", "b", "c"))
        self.raises(InvalidState, {"reason": "face", "index": 1}, crowd_for, H, S, ("a", "a", "b"))
        self.raises(InvalidState, {"reason": "face", "index": 2}, crowd_for, H, S, ("a", "c", "b"))
        self.raises(InvalidState, {"reason": "face", "index": 2}, crowd_for, SPLIT, SPLIT_STATE, ("a", "b", "a"))

    def test_does_not_change_what_the_document_relies_on(self):
        # Point 23: the faces alone say how many walkers stand in each room.
        for hall, state in middle_states(78, 15):
            for there in all_states(hall, state):
                self.assertEqual(crowd_for(hall, state, there[0]), ("crowd", crowd(hall, there)))
                self.assertEqual(counts(hall, there), counts(hall, state))
                self.assertEqual(still_doors(hall, there), still_doors(hall, state))

    def test_by_name(self):
        self.assertEqual(crowd_for(faces=S[0], state=S, hall=H), ("crowd", (1, 0, 0)))


if __name__ == "__main__":
    unittest.main()
