"""Stage 3: passes."""

import unittest

from tests import model
from tests.samples import H, LETTERS, S, Case, many_halls, wide_hall, wide_state
from turndoors.bands import bands, still_doors
from turndoors.errors import Blocked, Full, Mismatch, UnknownDoor, UnknownRoom, UnknownWalker
from turndoors.moves import can_pass, pass_door, put_walker, remove_walker, reverse, run, turn_door
from turndoors.states import counts, validate_state

TWINS = (("b", "a", "c"), (("y", "a", "b"), ("x", "b", "a"), ("w", "a", "b")))
LONE = (("a",), ())
BRIDGE = (("a", "b"), (("x", "a", "b"),))
FIVE = tuple((name, "a") for name in "pqrst")

NO_WALKERS = ("q", "a", "x", "", "P", "p ", "pp", "p\n")
NO_DOORS = ("w", "a", "p", "", "X", "x ", "xx", "x\n")
NO_ROOMS = ("d", "x", "p", "", "A", "a ", "ab", "a\n")


class CanPassTest(Case):

    def test_example(self):
        self.gives(False, can_pass, H, S, "p", "z")

    def test_only_from_the_room_that_the_door_faces(self):
        for room in "abc":
            state = (("a", "c", "c"), (("p", room),))
            self.gives(room == "a", can_pass, H, state, "p", "x")
            self.gives(room == "c", can_pass, H, state, "p", "y")
            self.gives(room == "c", can_pass, H, state, "p", "z")

    def test_against_the_model(self):
        for hall in many_halls():
            state = wide_state(hall, 5)
            for walker, _ in state[1]:
                for door, *_ in hall[1]:
                    wanted = (walker, door) in model.deeds(hall, state)
                    self.gives(wanted, can_pass, hall, state, walker, door)

    def test_names_that_are_the_same(self):
        hall = (("a", "b"), (("a", "b", "a"), ("b", "a", "b")))
        state = (("b", "a"), (("a", "b"), ("b", "a")))
        self.gives(True, can_pass, hall, state, "a", "a")
        self.gives(False, can_pass, hall, state, "a", "b")
        self.gives(False, can_pass, hall, state, "b", "a")
        self.gives(True, can_pass, hall, state, "b", "b")

    def test_unknown_walker_before_unknown_door(self):
        for name in NO_WALKERS:
            self.raises(UnknownWalker, {"name": name}, can_pass, H, S, name, "x")
            self.raises(UnknownWalker, {"name": name}, can_pass, H, S, name, "w")
        for name in NO_DOORS:
            self.raises(UnknownDoor, {"name": name}, can_pass, H, S, "p", name)
        self.raises(UnknownWalker, {"name": "p"}, can_pass, LONE, ((), ()), "p", "x")
        self.raises(UnknownDoor, {"name": "x"}, can_pass, LONE, ((), (("p", "a"),)), "p", "x")

    def test_by_name(self):
        self.assertIs(can_pass(door="x", walker="p", state=S, hall=H), True)


class PassDoorTest(Case):

    def test_example(self):
        self.gives((("b", "b", "c"), (("p", "b"),)), pass_door, H, S, "p", "x")

    def test_nothing_else_changes(self):
        state = (("b", "b", "c"), (("o", "b"), ("p", "b"), ("q", "c"), ("r", "b")))
        self.gives((("a", "b", "c"), (("o", "b"), ("p", "a"), ("q", "c"), ("r", "b"))), pass_door, H, state, "p", "x")
        self.gives((("b", "c", "c"), (("o", "b"), ("p", "b"), ("q", "c"), ("r", "c"))), pass_door, H, state, "r", "y")
        self.gives((("b", "b", "a"), (("o", "b"), ("p", "b"), ("q", "a"), ("r", "b"))), pass_door, H, state, "q", "z")

    def test_only_one_of_several_doors_with_the_same_ends(self):
        state = (("a", "a", "a"), (("p", "a"),))
        self.gives((("b", "a", "a"), (("p", "b"),)), pass_door, TWINS, state, "p", "y")
        self.gives((("a", "b", "a"), (("p", "b"),)), pass_door, TWINS, state, "p", "x")
        self.gives((("a", "a", "b"), (("p", "b"),)), pass_door, TWINS, state, "p", "w")

    def test_from_its_two_sides_by_turns(self):
        there = pass_door(BRIDGE, (("a",), (("p", "a"), ("q", "a"))), "p", "x")
        self.assertEqual(there, (("b",), (("p", "b"), ("q", "a"))))
        self.raises(Blocked, {"index": 0}, pass_door, BRIDGE, there, "q", "x")
        self.gives((("a",), (("p", "a"), ("q", "a"))), pass_door, BRIDGE, there, "p", "x")

    def test_against_the_model(self):
        for hall in many_halls():
            state = wide_state(hall, 5)
            for walker, _ in state[1]:
                for door, *_ in hall[1]:
                    there = model.step(hall, state, (walker, door))
                    if there is None:
                        self.raises(Blocked, {"index": 0}, pass_door, hall, state, walker, door)
                    else:
                        self.gives(there, pass_door, hall, state, walker, door)

    def test_errors_in_their_order(self):
        for name in NO_WALKERS:
            self.raises(UnknownWalker, {"name": name}, pass_door, H, S, name, "x")
            self.raises(UnknownWalker, {"name": name}, pass_door, H, S, name, "w")
        for name in NO_DOORS:
            self.raises(UnknownDoor, {"name": name}, pass_door, H, S, "p", name)
        self.raises(Blocked, {"index": 0}, pass_door, H, S, "p", "y")
        self.raises(Blocked, {"index": 0}, pass_door, H, S, "p", "z")

    def test_by_name(self):
        self.assertEqual(pass_door(door="x", walker="p", state=S, hall=H), (("b", "b", "c"), (("p", "b"),)))


class RunTest(Case):

    def test_example(self):
        self.raises(Blocked, {"index": 1}, run, H, S, [("p", "x"), ("p", "z")])

    def test_empty_row(self):
        self.gives(S, run, H, S, ())
        self.gives(S, run, H, S, [])
        self.gives(((), ()), run, LONE, ((), ()), ())

    def test_rows_as_tuples_and_as_lists(self):
        row = (("p", "x"), ("p", "y"), ("p", "z"))
        self.gives((("b", "c", "a"), (("p", "a"),)), run, H, S, row)
        self.gives((("b", "c", "a"), (("p", "a"),)), run, H, S, list(row))
        self.gives((("b", "c", "c"), (("p", "c"),)), run, H, S, row[:2])

    def test_index_of_the_first_deed_that_cannot_be_done(self):
        row = [("p", "x"), ("p", "y"), ("p", "z"), ("p", "z"), ("p", "y")]
        self.assertEqual(run(H, S, row), (("b", "b", "c"), (("p", "b"),)))
        for index in range(len(row) + 1):
            for wrong in (("p", "x" if index % 3 else "z"), ("q", "x"), ("p", "w"), ("q", "w"), ("x", "p"), ("", "")):
                if model.step(H, model.lead(H, S, row[:index]), wrong) is None:
                    changed = row[:index] + [wrong] + row[index:]
                    self.raises(Blocked, {"index": index}, run, H, S, changed)
                    self.raises(Blocked, {"index": index}, run, H, S, tuple(changed))

    def test_unknown_walkers_and_doors_cannot_be_done(self):
        for name in NO_WALKERS:
            self.raises(Blocked, {"index": 0}, run, H, S, [(name, "x")])
            self.raises(Blocked, {"index": 1}, run, H, S, [("p", "x"), (name, "y")])
        for name in NO_DOORS:
            self.raises(Blocked, {"index": 0}, run, H, S, [("p", name)])
            self.raises(Blocked, {"index": 1}, run, H, S, [("p", "x"), ("p", name)])
        self.raises(Blocked, {"index": 0}, run, LONE, ((), ()), [("p", "x")])

    def test_row_of_sixty_deeds(self):
        row = (("p", "x"), ("p", "y"), ("p", "z"), ("p", "z"), ("p", "y"), ("p", "x")) * 10
        self.assertEqual(len(row), 60)
        self.gives(S, run, H, S, row)
        self.gives((("b", "b", "c"), (("p", "b"),)), run, H, S, list(row[:59]))
        self.raises(Blocked, {"index": 59}, run, H, S, row[:59] + (("p", "z"),))
        self.raises(Blocked, {"index": 60}, run, H, S, row + (("q", "x"),))

    def test_long_rows_against_the_model(self):
        dice = model.Dice(1)
        for _ in range(300):
            hall, state = dice.hall_and_state()
            row = dice.walk(hall, state, 60)
            self.gives(model.lead(hall, state, row), run, hall, state, row)

    def test_any_rows_against_the_model(self):
        dice = model.Dice(8)
        for _ in range(300):
            hall, state = dice.hall_and_state()
            ending = [(walker + "w", door + "d") for walker, door in dice.row(6, 13, 3)]
            row = list(dice.walk(hall, state, 6)) + ending
            wanted = model.lead(hall, state, row)
            if isinstance(wanted, int):
                self.raises(Blocked, {"index": wanted}, run, hall, state, row)
            else:
                self.gives(wanted, run, hall, state, row)

    def test_a_row_in_two_parts(self):
        dice = model.Dice(2)
        for _ in range(50):
            hall, state = dice.hall_and_state()
            row = dice.walk(hall, state, 20)
            for at in range(len(row) + 1):
                self.assertEqual(run(hall, run(hall, state, row[:at]), row[at:]), run(hall, state, row))

    def test_by_name(self):
        self.assertEqual(run(row=(), state=S, hall=H), S)


class PromisesOfDeedsTest(Case):
    """Points 20 and 23: what a deed does not change."""

    def test_counts_bands_and_still_doors(self):
        dice = model.Dice(3)
        for _ in range(150):
            hall, state = dice.hall_and_state()
            there = run(hall, state, dice.walk(hall, state, 15))
            self.assertTrue(validate_state(hall, there))
            self.assertEqual(counts(hall, there), counts(hall, state))
            self.assertEqual(bands(hall, there), bands(hall, state))
            self.assertEqual(still_doors(hall, there), still_doors(hall, state))
            for door, one, other in zip(hall[1], state[0], there[0]):
                if door[0] in still_doors(hall, state):
                    self.assertEqual(one, other)
            for walkers, ground in bands(hall, state):
                for walker in walkers:
                    self.assertIn(dict(there[1])[walker], ground)

    def test_crowd_is_what_the_faces_say(self):
        dice = model.Dice(4)
        for _ in range(100):
            hall, state = dice.hall_and_state()
            faces, places = run(hall, state, dice.walk(hall, state, 15))
            rooms = [room for _, room in places]
            for room, count in zip(hall[0], counts(hall, state)):
                self.assertEqual(rooms.count(room), faces.count(room) - count)


class ReverseTest(Case):

    def test_example(self):
        self.gives((("q", "y"), ("p", "x")), reverse, [("p", "x"), ("q", "y")])

    def test_tuples_and_lists(self):
        row = (("p", "x"), ("q", "y"), ("p", "x"))
        self.gives((("p", "x"), ("q", "y"), ("p", "x")), reverse, row)
        self.gives((("r", "z"), ("p", "x"), ("q", "y")), reverse, (("q", "y"), ("p", "x"), ("r", "z")))
        self.gives((("p", "x"),), reverse, [("p", "x")])

    def test_empty_row(self):
        self.gives((), reverse, ())
        self.gives((), reverse, [])

    def test_leads_back(self):
        dice = model.Dice(5)
        for length in (0, 1, 2, 7, 60):
            for _ in range(60):
                hall, state = dice.hall_and_state()
                row = dice.walk(hall, state, length)
                self.gives(row[::-1], reverse, list(row))
                self.assertEqual(run(hall, run(hall, state, row), reverse(row)), state)

    def test_by_name(self):
        self.assertEqual(reverse(row=[("p", "x")]), (("p", "x"),))


class TurnDoorTest(Case):

    def test_example(self):
        self.gives((("a", "b", "a"), (("p", "a"),)), turn_door, H, S, "z")

    def test_there_and_back(self):
        for hall in many_halls():
            state = wide_state(hall, 3)
            for at, (door, one, other) in enumerate(hall[1]):
                turned = (state[0][:at] + ({one: other, other: one}[state[0][at]],) + state[0][at + 1:], state[1])
                self.gives(turned, turn_door, hall, state, door)
                self.gives(state, turn_door, hall, turned, door)

    def test_only_one_of_several_doors_with_the_same_ends(self):
        self.gives((("a", "a", "b"), ()), turn_door, TWINS, (("a", "b", "b"), ()), "x")

    def test_counts_of_the_two_ends_change(self):
        dice = model.Dice(6)
        for _ in range(100):
            hall, state = dice.hall_and_state()
            for (door, one, other), face in zip(hall[1], state[0]):
                wanted = model.room_counts(hall, state)
                wanted[face] -= 1
                wanted[other if face == one else one] += 1
                self.assertEqual(counts(hall, turn_door(hall, state, door)), tuple(wanted[room] for room in hall[0]))

    def test_unknown_door(self):
        for name in NO_DOORS:
            self.raises(UnknownDoor, {"name": name}, turn_door, H, S, name)
        self.raises(UnknownDoor, {"name": "x"}, turn_door, LONE, ((), ()), "x")

    def test_by_name(self):
        self.assertEqual(turn_door(door="x", state=S, hall=H), (("b", "b", "c"), (("p", "a"),)))


class PutWalkerTest(Case):

    def test_example(self):
        self.gives((("a", "b", "c"), (("o", "c"), ("p", "a"))), put_walker, H, S, "o", "c")

    def test_walkers_ascend(self):
        for name, at in (("a", 0), ("o", 1), ("oo", 2), ("ooa", 2), ("p", 2), ("pz", 3), ("qa", 4), ("zzzzzz", 4)):
            places = (("b", "c"), ("o", "b"), ("pa", "a"), ("q", "a"))
            if name != "o":
                wanted = places[:at] + ((name, "b"),) + places[at:]
                self.gives((S[0], wanted), put_walker, H, (S[0], places), name, "b")

    def test_first_walker(self):
        self.gives(((), (("p", "a"),)), put_walker, LONE, ((), ()), "p", "a")

    def test_every_room_and_every_order(self):
        dice = model.Dice(7)
        for _ in range(100):
            hall, state = dice.hall_and_state(walkers=4)
            name = dice.random.choice(LETTERS) + "x"
            for room in hall[0]:
                there = put_walker(hall, state, name, room)
                self.assertEqual(there, (state[0], tuple(sorted(state[1] + ((name, room),)))))
                self.assertTrue(validate_state(hall, there))
                self.assertEqual(remove_walker(there, name), state)
                wanted = model.room_counts(hall, state)
                wanted[room] -= 1
                self.assertEqual(counts(hall, there), tuple(wanted[room] for room in hall[0]))

    def test_the_sixth_walker(self):
        self.gives((S[0], FIVE), put_walker, H, (S[0], FIVE[:4]), "t", "a")
        self.raises(Full, {"most": 5}, put_walker, H, (S[0], FIVE), "u", "a")
        self.raises(Full, {"most": 5}, put_walker, H, (S[0], FIVE), "a", "c")

    def test_errors_in_their_order(self):
        for name in NO_ROOMS:
            self.raises(UnknownRoom, {"name": name}, put_walker, H, S, "o", name)
            self.raises(UnknownRoom, {"name": name}, put_walker, H, S, "p", name)
            self.raises(UnknownRoom, {"name": name}, put_walker, H, (S[0], FIVE), "p", name)
            self.raises(UnknownRoom, {"name": name}, put_walker, H, (S[0], FIVE), "u", name)
        for room in "abc":
            self.raises(Mismatch, {"name": "p"}, put_walker, H, S, "p", room)
        for name in "pqrst":
            self.raises(Mismatch, {"name": name}, put_walker, H, (S[0], FIVE), name, "b")

    def test_by_name(self):
        self.assertEqual(put_walker(room="a", walker="p", state=((), ()), hall=LONE), ((), (("p", "a"),)))


class RemoveWalkerTest(Case):

    def test_example(self):
        self.gives((("a", "b", "c"), ()), remove_walker, S, "p")

    def test_each_of_five(self):
        for at, (name, _) in enumerate(FIVE):
            self.gives((S[0], FIVE[:at] + FIVE[at + 1:]), remove_walker, (S[0], FIVE), name)

    def test_counts(self):
        hall = wide_hall(8, 12)
        state = wide_state(hall, 5)
        for name, room in state[1]:
            wanted = model.room_counts(hall, state)
            wanted[room] += 1
            self.assertEqual(counts(hall, remove_walker(state, name)), tuple(wanted[room] for room in hall[0]))

    def test_unknown_walker(self):
        for name in NO_WALKERS:
            self.raises(UnknownWalker, {"name": name}, remove_walker, S, name)
        self.raises(UnknownWalker, {"name": "p"}, remove_walker, (S[0], ()), "p")
        self.raises(UnknownWalker, {"name": "u"}, remove_walker, (S[0], FIVE), "u")

    def test_by_name(self):
        self.assertEqual(remove_walker(walker="p", state=S), (S[0], ()))


if __name__ == "__main__":
    unittest.main()
