"""Stage 6: from state to state."""

import itertools
import time
import unittest

from tests import model
from tests.samples import H, S, Case, nested, wide_hall, wide_state
from turndoors.bands import bands, is_enclosure
from turndoors.connect import connect, is_clash
from turndoors.errors import Mismatch
from turndoors.histories import least_row, projections, rounds, same_history
from turndoors.moves import put_walker, reverse, run, turn_door

LONE = (("a",), ())
BRIDGE = (("a", "b"), (("x", "a", "b"),))
TWINS = (("c", "b", "a"), (("z", "b", "a"), ("x", "a", "b"), ("y", "a", "b")))

# Door y faces away from p and q, so their ground is a and b; r stands alone in d.
SPLIT = (("a", "b", "c", "d"), (("x", "a", "b"), ("y", "b", "c"), ("z", "c", "d")))
SPLIT_STATE = (("a", "c", "c"), (("p", "a"), ("q", "b"), ("r", "d")))
SPLIT_GROUNDS = (("a", "b"), ("d",))


class ConnectCase(Case):

    def check(self, hall, state, target, reachable=None):
        """Check what connect answers, and return its kind."""
        result = self.answer(connect, hall, state, target)
        if result[0] == "row":
            self.assertEqual(len(result), 2)
            self.assertEqual(model.lead(hall, state, result[1]), target)
            self.assertEqual(run(hall, state, result[1]), target)
            self.assertIs(is_clash(hall, state, target, result), False)
        else:
            self.assertIn(result, model.clashes(hall, state, target, [result[-1]] if len(result) == 3 else []))
            self.assertIs(is_clash(hall, state, target, result), True)
        if reachable is not None:
            self.assertEqual(result[0] == "row", reachable)
        return result[0]

    def mismatch(self, name, hall, state, target):
        self.raises(Mismatch, {"name": name}, connect, hall, state, target)
        self.raises(Mismatch, {"name": name}, connect, hall, target, state)
        for value in (("count", "a", 0, 1), None, ("row", ()), ()):
            self.raises(Mismatch, {"name": name}, is_clash, hall, state, target, value)
            self.raises(Mismatch, {"name": name}, is_clash, hall, target, state, value)


class ConnectTest(ConnectCase):

    def test_example(self):
        target = (("b", "c", "a"), (("p", "a"),))
        self.assertEqual(self.check(H, S, target), "row")

    def test_the_state_itself(self):
        for hall, state in ((H, S), (LONE, ((), ())), (LONE, ((), (("p", "a"),))), (SPLIT, SPLIT_STATE)):
            self.check(hall, state, state, True)

    def test_each_kind_of_clash(self):
        self.assertEqual(self.check(H, S, (("a", "b", "a"), (("p", "a"),)), False), "count")
        self.assertEqual(self.check(SPLIT, SPLIT_STATE, (("a", "b", "c"), SPLIT_STATE[1]), False), "count")
        target = (("a", "c", "c"), (("p", "d"), ("q", "b"), ("r", "a")))
        self.assertEqual(self.check(SPLIT, SPLIT_STATE, target, False), "place")
        self.assertEqual(self.check(H, (("a", "b", "c"), ()), (("b", "c", "a"), ()), False), "door")

    def test_door_that_nobody_comes_to(self):
        hall = (("a", "b", "c", "d", "e"), H[1] + (("w", "d", "e"),))
        state, target = (("a", "b", "c", "d"), (("p", "d"),)), (("b", "c", "a", "d"), (("p", "d"),))
        self.assertEqual(self.check(hall, state, target, False), "door")
        hall = (hall[0], hall[1] + (("v", "d", "a"),))
        self.check(hall, (state[0] + ("d",), state[1]), (target[0] + ("d",), target[1]), True)
        self.check(hall, (state[0] + ("a",), state[1]), (target[0] + ("a",), target[1]), False)

    def test_walkers_who_exchange_their_rooms(self):
        self.check(BRIDGE, (("a",), (("p", "a"), ("q", "b"))), (("a",), (("p", "b"), ("q", "a"))), True)
        for rooms in itertools.permutations("abd"):
            target = (SPLIT_STATE[0], tuple(zip("pqr", rooms)))
            self.check(SPLIT, SPLIT_STATE, target, rooms[2] == "d")

    def test_walkers_who_exchange_their_rooms_through_others(self):
        rooms = ("a", "b", "c", "d", "e", "f", "g", "h")
        doors = tuple((one + other, one, other) for one, other in zip(rooms, rooms[1:]))
        state = (("a", "c", "c", "e", "e", "g", "g"), tuple(zip("pqrst", ("a", "c", "e", "g", "h"))))
        self.assertEqual(len(bands((rooms, doors), state)), 1)
        reaches = model.reaches((rooms, doors), state)
        for one, other in itertools.combinations("pqrst", 2):
            self.assertEqual(bool(reaches[one] & reaches[other]), one + other in "pqrst")
        for places in itertools.permutations(("a", "c", "e", "g", "h")):
            self.check((rooms, doors), state, (state[0], tuple(zip("pqrst", places))), True)

    def test_against_all_states_that_can_be_reached(self):
        kinds = {}
        for hall in model.small_halls():
            for walkers in ("", "p", "pq", "pqr"):
                states = model.all_states(hall, walkers)
                for at, state in enumerate(states[::1 + len(states) // 12]):
                    found = model.reachable(hall, state)
                    for target in states[at % 7::1 + len(states) // 40]:
                        kind = self.check(hall, state, target, target in found)
                        kinds[kind] = kinds.get(kind, 0) + 1
                    for target in sorted(found)[::1 + len(found) // 10]:
                        self.check(hall, state, target, True)
        self.assertEqual(sorted(kinds), ["count", "door", "place", "row"])

    def test_all_pairs_of_states(self):
        for hall, walkers in ((H, "p"), (H, "pq"), (BRIDGE, "pqr"), (SPLIT, "p"), (TWINS, "pq")):
            states = model.all_states(hall, walkers)
            for state in states:
                found = model.reachable(hall, state)
                for target in states:
                    self.check(hall, state, target, target in found)

    def test_five_walkers_against_all_states_that_can_be_reached(self):
        dice = model.Dice(31)
        for _ in range(12):
            hall = dice.hall(4, 5)
            state = dice.state(hall, 5)
            found = model.reachable(hall, state)
            for target in dice.random.sample(sorted(found), min(20, len(found))):
                self.check(hall, state, target, True)
                other = (target[0], dice.shuffled(target[1]))
                self.check(hall, state, other, other in found)

    def test_both_ways(self):
        dice = model.Dice(32)
        for _ in range(100):
            hall, state = dice.hall_and_state()
            target = run(hall, state, dice.walk(hall, state, 25))
            self.assertEqual(self.check(hall, state, target, True), self.check(hall, target, state, True))

    def test_mismatch(self):
        faces = ("a", "b", "c")
        self.mismatch("p", H, S, (faces, ()))
        self.mismatch("o", H, S, (faces, (("o", "a"), ("p", "a"))))
        self.mismatch("p", H, S, (faces, (("q", "a"),)))
        self.mismatch("a", H, (faces, (("b", "a"), ("d", "a"))), (faces, (("a", "a"), ("b", "a"), ("c", "a"))))
        self.mismatch("c", H, (faces, (("a", "a"), ("d", "a"))), (faces, (("a", "a"), ("c", "a"))))
        self.mismatch("aa", H, (faces, (("aa", "a"), ("b", "a"))), (faces, (("ab", "a"), ("b", "a"))))
        self.mismatch("p", LONE, ((), ()), ((), (("p", "a"),)))

    def test_mismatch_comes_before_a_count(self):
        self.mismatch("p", H, S, (("b", "c", "a"), (("q", "c"),)))

    def test_by_name(self):
        self.assertEqual(connect(target=S, state=S, hall=H)[0], "row")


class LargeHallTest(ConnectCase):
    """Halls with 8 rooms, 12 doors and 5 walkers, in which there are hundreds of thousands of states."""

    def test_targets_that_can_be_reached(self):
        dice = model.Dice(33)
        for n in range(300):
            hall = dice.hall(8 - n % 3, 12)
            state = dice.state(hall, 5)
            target = model.lead(hall, state, dice.walk(hall, state, 60))
            self.check(hall, state, target, True)
            grounds = {walker: at for at, (walkers, _) in enumerate(bands(hall, state)) for walker in walkers}
            places = dice.shuffled(target[1])
            old, new = dict(target[1]), dict(places)
            kept = all(grounds[walker] in [grounds[name] for name in old if old[name] == new[walker]] for walker in new)
            self.check(hall, state, (target[0], places), kept)

    def test_targets_with_the_same_counts(self):
        dice = model.Dice(34)
        kinds = []
        for _ in range(3000):
            hall = dice.hall(8, 12)
            state, target = dice.state(hall, 5), dice.state(hall, 5)
            # Turned rings of doors leave the counts as they are, in each hall in which there is one.
            faces = same_counts(hall, state[0], target[0])
            kinds.append(self.check(hall, state, (faces, dice.shuffled(state[1]))))
        self.assertEqual(sorted(set(kinds)), ["door", "place", "row"])

    def test_any_targets(self):
        dice = model.Dice(35)
        for _ in range(300):
            hall, state = dice.hall_and_state()
            self.check(hall, state, dice.state(hall, len(state[1])))

    def test_wide_halls(self):
        for doors in range(13):
            hall = wide_hall(8, doors)
            state = wide_state(hall, 5)
            for rooms in itertools.permutations([room for _, room in state[1]]):
                self.check(hall, state, (state[0], tuple((name, room) for (name, _), room in zip(state[1], rooms))))

    def test_all_walkers_go_round(self):
        rooms = ("a", "b", "c", "d", "e", "f", "g", "h")
        ends = [(one, other) for one, other in zip(rooms, rooms[1:] + rooms[:1])]
        doors = tuple(("r" + one, one, other) for one, other in ends)
        faces = tuple(one for one, _ in ends)
        for rooms_of in (("a",) * 5, ("a", "c", "e", "g", "h"), ("a", "a", "c", "c", "f")):
            places = tuple(zip("pqrst", rooms_of))
            target = (tuple(other for _, other in ends), places)
            self.check((rooms, doors), (faces, places), target, True)
            self.check((rooms, doors), target, (faces, places), True)
            target = (faces, tuple(zip("pqrst", rooms_of[::-1])))
            self.check((rooms, doors), (faces, places), target, True)

    def test_an_answer_comes_quickly(self):
        dice = model.Dice(36)
        asked = []
        for _ in range(200):
            hall = dice.hall(8, 12)
            state = dice.state(hall, 5)
            asked.append((hall, state, model.lead(hall, state, dice.walk(hall, state, 60))))
            asked.append((hall, state, (asked[-1][2][0], dice.shuffled(asked[-1][2][1]))))
        start = time.perf_counter()
        for hall, state, target in asked:
            connect(hall, state, target)
        # It takes some tenths of a second. A search through the states would take minutes.
        self.assertLess(time.perf_counter() - start, 20)

    def test_a_returned_row_may_be_passed_on(self):
        dice = model.Dice(37)
        for _ in range(60):
            hall = dice.hall(5, 12)
            state = dice.state(hall, 5)
            target = model.lead(hall, state, dice.walk(hall, state, 60))
            target = (target[0], dice.shuffled(target[1]))
            kind, *rest = connect(hall, state, target)
            if kind == "row":
                row = rest[0]
                self.assertEqual(run(hall, target, reverse(row)), state)
                for other in (least_row(row), [deed for deeds in rounds(row) for deed in deeds]):
                    self.assertEqual(run(hall, state, other), target)
                    self.assertTrue(same_history(row, other))
                    self.assertEqual(projections(other), projections(row))

    def test_a_returned_enclosure_may_be_passed_on(self):
        dice = model.Dice(38)
        for _ in range(300):
            hall, state = dice.hall_and_state()
            result = connect(hall, state, (same_counts(hall, state[0], dice.state(hall, 0)[0]), dice.shuffled(state[1])))
            if result[0] in ("place", "door"):
                self.assertIs(is_enclosure(hall, state, result[2]), True)


def same_counts(hall, faces, others):
    """Return faces that many doors share with the others, each room having as many of them as in the faces."""
    faces = list(faces)
    left = [at for at in range(len(faces)) if faces[at] != others[at]]
    for size in range(2, 5):
        for chosen in itertools.combinations(left, size):
            before = sorted(faces[at] for at in chosen)
            if before == sorted(others[at] for at in chosen) and all(faces[at] != others[at] for at in chosen):
                for at in chosen:
                    faces[at] = others[at]
    return tuple(faces)


class WhatChangesTheAnswerTest(ConnectCase):

    def test_door_turned_by_hand(self):
        for door in "xyz":
            self.assertEqual(self.check(H, S, turn_door(H, S, door), False), "count")

    def test_one_more_walker(self):
        state = (("b", "b", "c"), (("p", "a"),))
        target = (("b", "c", "b"), (("p", "a"),))
        self.assertEqual(self.check(H, state, (("b", "b", "c"), (("p", "b"),)), False), "count")
        hall = (("a", "b", "c"), (("x", "a", "b"), ("y", "b", "c"), ("z", "b", "c")))
        self.assertEqual(self.check(hall, state, target, False), "door")
        for room in "bc":
            self.check(hall, put_walker(hall, state, "q", room), put_walker(hall, target, "q", room), True)
        self.check(hall, put_walker(hall, state, "q", "a"), put_walker(hall, target, "q", "a"), False)


class IsClashTest(ConnectCase):

    def test_example(self):
        self.gives(True, is_clash, H, S, (("a", "b", "a"), (("p", "a"),)), ("count", "a", 0, 1))

    def test_counts(self):
        target = (("a", "b", "a"), (("p", "a"),))
        self.gives(True, is_clash, H, S, target, ("count", "c", 1, 0))
        self.gives(False, is_clash, H, S, target, ("count", "b", 1, 1))
        for room in ("a", "b", "c", "d", "x", ""):
            for now in range(-2, 3):
                for then in range(-2, 3):
                    wanted = (room, now, then) in (("a", 0, 1), ("c", 1, 0))
                    self.assertIs(is_clash(H, S, target, ("count", room, now, then)), wanted)

    def test_negative_counts(self):
        state, target = (("a",), (("p", "b"), ("q", "b"))), (("b",), (("p", "b"), ("q", "a")))
        self.gives(True, is_clash, BRIDGE, state, target, ("count", "a", 1, -1))
        self.gives(True, is_clash, BRIDGE, state, target, ("count", "b", -2, 0))

    def test_booleans_in_place_of_numbers(self):
        target = (("a", "b", "a"), (("p", "a"),))
        for value in (("count", "a", False, True), ("count", "a", 0, True), ("count", "a", False, 1), ("count", "c", True, 0)):
            self.gives(False, is_clash, H, S, target, value)

    def test_places(self):
        target = (("a", "c", "c"), (("p", "d"), ("q", "b"), ("r", "a")))
        self.gives(True, is_clash, SPLIT, SPLIT_STATE, target, ("place", "p", SPLIT_GROUNDS))
        self.gives(True, is_clash, SPLIT, SPLIT_STATE, target, ("place", "r", SPLIT_GROUNDS))
        self.gives(True, is_clash, SPLIT, SPLIT_STATE, target, ("place", "r", (("d",), ("b", "a"))))
        self.gives(False, is_clash, SPLIT, SPLIT_STATE, target, ("place", "q", SPLIT_GROUNDS))
        self.gives(False, is_clash, SPLIT, SPLIT_STATE, target, ("place", "p", (("a", "b", "c", "d"),)))
        self.gives(False, is_clash, SPLIT, SPLIT_STATE, target, ("place", "p", (("a",), ("b",), ("d",))))
        self.gives(False, is_clash, SPLIT, SPLIT_STATE, target, ("place", "p", (("a", "b", "c"), ("d",))))

    def test_doors(self):
        state, target = (("a", "b", "c"), ()), (("b", "c", "a"), ())
        for door in "xyz":
            self.gives(True, is_clash, H, state, target, ("door", door, ()))
            self.gives(False, is_clash, H, state, target, ("door", door, (("a", "b", "c"),)))
            self.gives(False, is_clash, H, state, target, ("door", door, (("a", "b"),)))
            self.gives(False, is_clash, H, state, state, ("door", door, ()))
            self.gives(False, is_clash, H, S, (target[0], S[1]), ("door", door, ()))

    def test_an_enclosure_of_the_target_alone(self):
        hall = (("a", "b", "c"), (("x", "a", "b"), ("y", "b", "c")))
        state, target = (("b", "b"), (("p", "a"),)), (("a", "c"), (("p", "c"),))
        self.gives(True, is_enclosure, hall, target, (("c", "b"),))
        self.gives(False, is_enclosure, hall, state, (("c", "b"),))
        self.gives(False, is_clash, hall, state, target, ("door", "x", (("c", "b"),)))

    def test_against_the_words(self):
        dice = model.Dice(39)
        seen = set()
        for hall in model.small_halls():
            lots = model.tuples_of_lots(hall[0], 2 if len(hall[0]) < 4 else 1)
            states = model.all_states(hall, "pq")
            for state, target in itertools.product(dice.random.sample(states, min(2, len(states))), repeat=2):
                target = (same_counts(hall, state[0], target[0]), dice.shuffled(target[1]))
                found = set(model.clashes(hall, state, target, lots))
                seen.update(value[0] for value in found)
                self.assertTrue(not found or target not in model.reachable(hall, state))
                names = [("place", walker) for walker in "pqx"] + [("door", door[0]) for door in hall[1]]
                for value in [(*pair, enclosure) for pair in names for enclosure in lots] + sorted(found, key=repr):
                    self.assertIs(is_clash(hall, state, target, value), value in found)
        self.assertEqual(seen, {"count", "place", "door"})

    def test_never_both_a_row_and_a_clash(self):
        for state in model.all_states(H, "p")[::3]:
            found = model.reachable(H, state)
            for target in found:
                for enclosure in model.tuples_of_lots("abc", 1):
                    for value in (("place", "p", enclosure), *[("door", door, enclosure) for door in "xyz"]):
                        self.assertIs(is_clash(H, state, target, value), False)

    def test_values_of_other_kinds(self):
        count = (S, (("a", "b", "a"), (("p", "a"),)), ("count", "a", 0, 1))
        door = ((S[0], ()), (("b", "c", "a"), ()), ("door", "x", ()))
        place = ((("a", "b", "b"), (("p", "c"),)), (("a", "b", "b"), (("p", "a"),)), ("place", "p", (("c",),)))
        odd = [
            None, True, False, 0, 1, -1, 10 ** 3999, "", "count", "place", "door", "row", (), ("count",), ("place",),
            ("door",), (None,), ((),), ("row", ()), ("count", "a"), ("count", "a", 0), ("place", "p"), ("door", "x"),
            nested("a", 12), nested((), 11),
        ]
        for state, target, value in (count, door, place):
            self.assertIs(is_clash(H, state, target, value), True)
            for wrong in odd + [value + (item,) for item in odd[:8]] + [value[:-1], (value,), value[1:], value * 2]:
                self.gives(False, is_clash, H, state, target, wrong)

    def test_items_of_other_kinds(self):
        count = (S, (("a", "b", "a"), (("p", "a"),)), ("count", "a", 0, 1))
        door = ((("b", "b", "c"), (("p", "a"),)), (("a", "b", "c"), (("p", "b"),)), ("door", "x", (("a",),)))
        place = ((("a", "b", "b"), (("p", "c"),)), (("a", "b", "b"), (("p", "a"),)), ("place", "p", (("c",),)))
        odd = [
            None, True, False, 2, -1, 10 ** 3999, "", "Count", "row", "d", "w", "P", ("c",), ("a",), (("a", "a"),), (("b",),),
            (("a",), ("d",)), ((("c",),),), (("c", 0),), (("c",), ()), (("a",), None), nested("c", 11), nested((), 10),
        ]
        for state, target, value in (count, door, place):
            self.assertIs(is_clash(H, state, target, value), True)
            for at in range(len(value)):
                for item in odd:
                    self.gives(False, is_clash, H, state, target, value[:at] + (item,) + value[at + 1:])

    def test_kinds_do_not_stand_for_one_another(self):
        state, target = (("a", "b", "c"), ()), (("b", "c", "a"), ())
        self.gives(False, is_clash, H, state, target, ("place", "x", ()))
        self.gives(False, is_clash, H, state, target, ("count", "x", ()))
        self.gives(False, is_clash, H, state, target, ("row", ()))
        self.gives(False, is_clash, H, S, (("b", "c", "a"), S[1]), connect(H, S, (("b", "c", "a"), S[1])))

    def test_by_name(self):
        target = (("a", "b", "a"), (("p", "a"),))
        self.assertIs(is_clash(value=("count", "a", 0, 1), target=target, state=S, hall=H), True)


if __name__ == "__main__":
    unittest.main()
