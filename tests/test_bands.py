"""Stage 5: reaches and bands."""

import unittest

from tests import model
from tests.samples import H, S, Case, many_halls, nested, wide_hall, wide_state
from turndoors.bands import bands, chains_from, in_one_lot, is_enclosure, path, reach, still_doors
from turndoors.errors import UnknownRoom, UnknownWalker
from turndoors.moves import run

LONE = (("a",), ())

# The reaches are a b, b c d and d e, so q connects p and r, whose reaches have no common room.
CHAIN = (("e", "c", "a", "d", "b"), (("x", "a", "b"), ("y", "b", "c"), ("z", "c", "d"), ("w", "d", "e")))
CHAINED = (("a", "c", "c", "e"), (("p", "a"), ("q", "c"), ("r", "e")))

# The same without q: two bands, and the doors y and z, which face c, have no common ground for their ends.
UNCHAINED = (("a", "c", "c", "e"), (("p", "a"), ("r", "e")))

NO_WALKERS = ("o", "a", "x", "", "P", "p ", "pp", "p\n")
NO_ROOMS = ("f", "x", "p", "", "A", "a ", "ab", "a\n")


def small_states():
    """Return the small halls with some of their states, of all numbers of walkers up to three."""
    found = []
    for hall in model.small_halls():
        for walkers in ("", "p", "pq", "pqr"):
            states = model.all_states(hall, walkers)
            found.extend([(hall, state) for state in states[::1 + len(states) // 40]])
    return found


def large_states(seed):
    """Return large halls, each with a state."""
    dice = model.Dice(seed)
    return [dice.hall_and_state() for _ in range(300)] + [(hall, wide_state(hall, 5)) for hall in many_halls()]


class ReachTest(Case):

    def test_example(self):
        self.gives(("a", "b", "c"), reach, H, S, "p")

    def test_chain(self):
        self.gives(("a", "b"), reach, CHAIN, CHAINED, "p")
        self.gives(("c", "d", "b"), reach, CHAIN, CHAINED, "q")
        self.gives(("e", "d"), reach, CHAIN, CHAINED, "r")

    def test_own_room(self):
        self.gives(("a",), reach, LONE, ((), (("p", "a"),)), "p")
        self.gives(("a",), reach, H, (("b", "b", "c"), (("p", "a"),)), "p")

    def test_through_a_door_only_from_the_end_that_it_faces(self):
        self.gives(("a", "b", "c"), reach, H, (("a", "c", "a"), (("p", "a"),)), "p")
        self.gives(("b",), reach, H, (("a", "c", "a"), (("p", "b"),)), "p")
        self.gives(("b", "c"), reach, H, (("a", "c", "a"), (("p", "c"),)), "p")

    def test_against_the_model(self):
        for hall, state in small_states() + large_states(21):
            for walker, rooms in model.reaches(hall, state).items():
                self.gives(tuple(room for room in hall[0] if room in rooms), reach, hall, state, walker)

    def test_unknown_walker(self):
        for name in NO_WALKERS:
            self.raises(UnknownWalker, {"name": name}, reach, H, S, name)
        self.raises(UnknownWalker, {"name": "p"}, reach, LONE, ((), ()), "p")

    def test_by_name(self):
        self.assertEqual(reach(walker="p", state=S, hall=H), ("a", "b", "c"))


class PathTest(Case):

    def test_example(self):
        self.gives(("x", "y"), path, H, S, "p", "c")

    def test_own_room(self):
        self.gives((), path, H, S, "p", "a")
        self.gives((), path, LONE, ((), (("p", "a"),)), "p", "a")

    def test_room_out_of_reach(self):
        self.gives(None, path, CHAIN, CHAINED, "p", "c")
        self.gives(None, path, (("a", "b"), ()), ((), (("p", "a"),)), "p", "b")

    def test_the_shorter_one(self):
        state = (("a", "b", "a"), (("p", "a"),))
        self.gives(("z",), path, H, state, "p", "c")
        hall = (("a", "b", "c"), (("x", "a", "b"), ("y", "b", "a"), ("z", "b", "c")))
        self.assertIn(self.answer(path, hall, (("a", "a", "b"), (("p", "a"),)), "p", "c"), [("x", "z"), ("y", "z")])

    def test_against_the_model(self):
        for hall, state in small_states() + large_states(22):
            for walker, start in state[1]:
                lengths = model_lengths(hall, state, start)
                for room in hall[0]:
                    doors = self.answer(path, hall, state, walker, room)
                    if room not in lengths:
                        self.assertIsNone(doors)
                    else:
                        self.assertEqual(len(doors), lengths[room])
                        there = run(hall, state, [(walker, door) for door in doors])
                        self.assertEqual(dict(there[1])[walker], room)

    def test_unknown_walker_before_unknown_room(self):
        for name in NO_WALKERS:
            self.raises(UnknownWalker, {"name": name}, path, H, S, name, "a")
            self.raises(UnknownWalker, {"name": name}, path, H, S, name, "f")
        for name in NO_ROOMS:
            self.raises(UnknownRoom, {"name": name}, path, H, S, "p", name)

    def test_by_name(self):
        self.assertEqual(path(room="b", walker="p", state=S, hall=H), ("x",))


def model_lengths(hall, state, start):
    """Return the number of doors that are needed to each room in reach of the start."""
    lengths = {start: 0}
    for length in range(1, len(hall[0])):
        for (_, one, other), face in zip(hall[1], state[0]):
            if lengths.get(face) == length - 1:
                lengths.setdefault(other if face == one else one, length)
    return lengths


class BandsTest(Case):

    def test_example(self):
        self.gives(((("p",), ("a", "b", "c")),), bands, H, S)

    def test_chain(self):
        self.gives(((("p", "q", "r"), ("e", "c", "a", "d", "b")),), bands, CHAIN, CHAINED)
        self.gives(((("p",), ("a", "b")), (("r",), ("e", "d"))), bands, CHAIN, UNCHAINED)

    def test_a_chain_that_goes_through_the_greatest_walker(self):
        state = (CHAINED[0], (("p", "a"), ("q", "e"), ("r", "c")))
        self.gives(((("p", "q", "r"), ("e", "c", "a", "d", "b")),), bands, CHAIN, state)

    def test_order_of_bands_and_walkers(self):
        hall = (("b", "a", "c"), ())
        state = ((), (("p", "a"), ("q", "b"), ("r", "a"), ("s", "b"), ("t", "c")))
        self.gives(((("p", "r"), ("a",)), (("q", "s"), ("b",)), (("t",), ("c",))), bands, hall, state)

    def test_without_walkers_and_without_doors(self):
        self.gives((), bands, H, (("a", "b", "c"), ()))
        self.gives((), bands, LONE, ((), ()))
        self.gives(((("p", "q"), ("a",)),), bands, LONE, ((), (("p", "a"), ("q", "a"))))

    def test_one_way_is_enough_for_a_common_room(self):
        hall = (("a", "b"), (("x", "a", "b"),))
        self.gives(((("p", "q"), ("a", "b")),), bands, hall, (("a",), (("p", "a"), ("q", "b"))))
        self.gives(((("p",), ("a", "b")),), bands, hall, (("a",), (("p", "a"),)))
        self.gives(((("p",), ("b",)),), bands, hall, (("a",), (("p", "b"),)))

    def test_against_the_model(self):
        for hall, state in small_states() + large_states(23):
            wanted = sorted(
                (tuple(sorted(walkers)), tuple(room for room in hall[0] if room in ground))
                for walkers, ground in model.bands(hall, state)
            )
            self.gives(tuple(wanted), bands, hall, state)

    def test_grounds_are_an_enclosure(self):
        for hall, state in small_states() + large_states(24):
            self.assertIs(is_enclosure(hall, state, tuple(ground for _, ground in bands(hall, state))), True)

    def test_grounds_are_where_the_walkers_of_the_band_can_stand(self):
        for hall, state in small_states()[::3]:
            found = {}
            for _, places in model.reachable(hall, state):
                for walker, room in places:
                    found.setdefault(walker, set()).add(room)
            for walkers, ground in bands(hall, state):
                for walker in walkers:
                    self.assertEqual(found[walker], set(ground))

    def test_chains(self):
        self.assertEqual(chains_from(CHAIN, CHAINED, "p"), {"p": (), "q": ("q",), "r": ("q", "r")})
        self.assertEqual(chains_from(CHAIN, CHAINED, "q"), {"q": (), "p": ("p",), "r": ("r",)})
        self.assertEqual(chains_from(CHAIN, UNCHAINED, "p"), {"p": ()})

    def test_by_name(self):
        self.assertEqual(bands(state=S, hall=H), ((("p",), ("a", "b", "c")),))


class StillDoorsTest(Case):

    def test_example(self):
        self.gives(("x", "y", "z"), still_doors, H, (("b", "b", "c"), (("p", "a"),)))
        self.gives((), still_doors, H, S)

    def test_chain(self):
        self.gives((), still_doors, CHAIN, CHAINED)
        self.gives(("y", "z"), still_doors, CHAIN, UNCHAINED)

    def test_ends_in_two_grounds(self):
        hall = (("a", "b", "c"), (("x", "a", "b"), ("y", "b", "c")))
        self.gives(("x", "y"), still_doors, hall, (("b", "b"), (("p", "a"), ("q", "c"))))

    def test_without_walkers_and_without_doors(self):
        self.gives(("x", "y", "z"), still_doors, H, (("a", "b", "c"), ()))
        self.gives((), still_doors, LONE, ((), (("p", "a"),)))
        hall = wide_hall(8, 12)
        self.gives(tuple(door[0] for door in hall[1]), still_doors, hall, wide_state(hall, 0))

    def test_against_the_model(self):
        for hall, state in small_states() + large_states(25):
            self.gives(model.still(hall, state), still_doors, hall, state)

    def test_doors_that_are_not_still_can_be_turned(self):
        for hall, state in small_states()[::3]:
            found = model.reachable(hall, state)
            turned = {door[0]: len({faces[at] for faces, _ in found}) > 1 for at, door in enumerate(hall[1])}
            for door in still_doors(hall, state):
                self.assertFalse(turned[door])

    def test_by_name(self):
        self.assertEqual(still_doors(state=S, hall=H), ())


class IsEnclosureTest(Case):

    def test_example(self):
        self.gives(False, is_enclosure, H, S, (("a", "b"),))

    def test_enclosures_of_the_example(self):
        self.gives(True, is_enclosure, H, S, (("a", "b", "c"),))
        self.gives(True, is_enclosure, H, S, (("c", "a", "b"),))
        self.gives(True, is_enclosure, H, (("b", "b", "c"), (("p", "a"),)), (("a",),))
        self.gives(True, is_enclosure, H, (("b", "b", "c"), (("p", "a"),)), (("a", "b", "c"),))
        self.gives(False, is_enclosure, H, (("b", "b", "c"), (("p", "a"),)), (("a",), ("b", "c")))
        self.gives(True, is_enclosure, CHAIN, UNCHAINED, (("b", "a"), ("d", "e")))
        self.gives(True, is_enclosure, CHAIN, UNCHAINED, (("d", "e"), ("a", "b")))
        self.gives(False, is_enclosure, CHAIN, UNCHAINED, (("d", "e"), ("a", "b"), ("c",)))

    def test_no_lots(self):
        self.gives(True, is_enclosure, H, (("a", "b", "c"), ()), ())
        self.gives(True, is_enclosure, LONE, ((), ()), ())
        self.gives(False, is_enclosure, H, S, ())

    def test_lots_without_walkers(self):
        hall = (("a", "b", "c", "d"), (("x", "a", "b"), ("y", "b", "c")))
        state = (("b", "b"), (("p", "a"),))
        self.gives(True, is_enclosure, hall, state, (("a",), ("d",)))
        self.gives(True, is_enclosure, hall, state, (("c",), ("a",)))
        self.gives(False, is_enclosure, hall, state, (("a",), ("b",)))
        self.gives(False, is_enclosure, hall, state, (("c",), ("d",)))

    def test_lots_that_are_empty_or_have_a_room_twice(self):
        state = (("b", "b", "c"), (("p", "a"),))
        for value in ((("a",), ()), ((),), (("a", "a"),), (("a",), ("a",)), (("a", "b", "c"), ("a",)), (("a", "b", "c", "a"),)):
            self.gives(False, is_enclosure, H, state, value)

    def test_against_all_tuples_of_lots(self):
        for hall, state in small_states()[::12]:
            for value in model.tuples_of_lots(hall[0], 2 if len(hall[0]) < 4 else 1):
                self.assertIs(is_enclosure(hall, state, value), model.is_enclosure(hall, state, value))

    def test_against_all_tuples_of_three_lots(self):
        state = (("b", "b", "a"), (("p", "a"), ("q", "c")))
        hall = (("a", "b", "c"), (("x", "a", "b"), ("y", "b", "c"), ("z", "a", "b")))
        for value in model.tuples_of_lots(hall[0], 3):
            self.assertIs(is_enclosure(hall, state, value), model.is_enclosure(hall, state, value))

    def test_no_row_leads_out(self):
        for hall, state in small_states()[::12]:
            found = model.reachable(hall, state)
            for value in model.tuples_of_lots(hall[0], 1):
                if is_enclosure(hall, state, value):
                    for faces, places in found:
                        self.assertTrue(all(room in value[0] for _, room in places))
                        for door, one, other in zip(hall[1], state[0], faces):
                            self.assertTrue(one == other or set(door[1:]) <= set(value[0]))

    def test_values_of_other_kinds(self):
        values = [
            None, True, False, 0, 1, -1, 10 ** 3999, "", "a", "abc", ("a", "b", "c"), ("abc",), (("abc",),), (None,), (0,),
            ((0,),), ((None,),), ((True,),), nested("a", 12), nested((), 11), nested(("a", "b", "c"), 2), ("",), (("",),),
        ]
        for value in values:
            self.gives(False, is_enclosure, H, S, value)
            if value != ():
                self.gives(False, is_enclosure, H, (S[0], ()), value)

    def test_rooms_of_other_kinds(self):
        items = [None, True, False, 0, 10 ** 3999, "", "d", "x", "p", "A", "a ", ("a",), (), nested("d", 9)]
        for item in items:
            for at in range(4):
                lot = ("a", "b", "c")[:at] + (item,) + ("a", "b", "c")[at:]
                self.gives(False, is_enclosure, H, S, (lot,))
            self.gives(False, is_enclosure, H, S, (("a", "b", "c"), item))
            self.gives(False, is_enclosure, H, S, (("a", "b", "c"), (item,)))

    def test_in_one_lot(self):
        self.assertIs(in_one_lot((("a", "b"), ("c",)), "b", "a"), True)
        self.assertIs(in_one_lot((("a", "b"), ("c",)), "b", "c"), False)
        self.assertIs(in_one_lot((), "b", "b"), False)

    def test_by_name(self):
        self.assertIs(is_enclosure(value=(("a", "b", "c"),), state=S, hall=H), True)


if __name__ == "__main__":
    unittest.main()
