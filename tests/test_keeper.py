"""Stage 13: a keeper."""

import time
import unittest

from tests import model
from tests.samples import H, NO_NAMES, NO_TUPLES, S, Case, nested, wide_hall, wide_state
from turndoors import moves
from turndoors.errors import (
    Blocked, Full, HallError, InvalidHall, InvalidState, Mismatch, Rejected, UnknownDoor, UnknownRoom, UnknownWalker,
)
from turndoors.halls import validate_hall
from turndoors.keeper import Keeper
from turndoors.moves import put_walker, remove_walker, reverse, run, turn_door
from turndoors.states import counts, validate_state

LONE = (("a",), ())
BRIDGE = (("a", "b"), (("x", "a", "b"),))
FIVE = tuple((name, "a") for name in "pqrst")

NO_WALKERS = ("o", "a", "x", "", "P", "p ", "pp", "p\n")
NO_DOORS = ("w", "a", "p", "", "X", "x ", "xy", "x\n")
NO_ROOMS = ("d", "x", "p", "", "A", "a ", "ab", "a\n")

CHANGES = (
    ("pass", "p", "x"), ("put", "q", "a"), ("turn", "z"), ("pass", "q", "z"), ("remove", "p"), ("pass", "q", "z"),
    ("put", "p", "b"), ("pass", "p", "y"), ("pass", "p", "y"), ("turn", "x"),
)

NO_CHANGES = NO_TUPLES + (
    (), ("pass",), ("turn",), ("put",), ("remove",), ("undo",), ("pass", "p"), ("pass", "p", "x", "x"), ("turn", "x", "y"),
    ("put", "q"), ("put", "q", "a", "b"), ("remove", "p", "a"), ("remove",), ("Pass", "p", "x"), ("", "p", "x"), ("x",),
    ("p", "x"), ("pass", "p", None), ("pass", None, "x"), ("pass", "p", 0), ("turn", True), ("turn", ("x",)), ("turn", 1),
    ("put", "q", ("a",)), ("put", 1, "a"), ("remove", None), ("remove", ("p",)), (("turn",), "x"), (None, "x"), (True, "x"),
    (0, "x"), (("turn", "x"),), (("turn", "x"), ("turn", "x")), nested("turn", 12), nested((), 12), ("undo", "x"),
    ("several", "x"), ("log",), ("turn", "x", None), ("state", "x"),
)

WRONG_CHANGES = (
    ("pass", "q", "x"), ("pass", "p", "w"), ("pass", "p", "y"), ("pass", "x", "p"), ("turn", "w"), ("turn", "a"),
    ("turn", ""), ("put", "q", "d"), ("put", "p", "a"), ("put", "", "a"), ("put", "A", "a"), ("put", "abcdefg", "a"),
    ("put", "a b", "b"), ("remove", "q"), ("remove", "a"), ("remove", ""),
)


def make(keeper, change):
    """Make the change by its own method."""
    kind, *names = change
    {"pass": keeper.pass_door, "turn": keeper.turn, "put": keeper.put, "remove": keeper.remove}[kind](*names)


def after(hall, state, change):
    """Return the state after the change, made by the functions of turndoors.moves."""
    kind, *names = change
    if kind == "remove":
        return remove_walker(state, *names)
    return {"pass": moves.pass_door, "turn": turn_door, "put": put_walker}[kind](hall, state, *names)


def can_be_made(hall, state, change):
    """Tell whether the change can be made in the state."""
    if change[0] == "put" and change[1] in NO_NAMES:
        return False
    try:
        after(hall, state, change)
    except (HallError, KeyError):
        return False
    return True


def trail_of(log):
    row = []
    for kind, *names in log:
        row = [*row, tuple(names)] if kind == "pass" else []
    return tuple(row)


class KeeperCase(Case):

    def sees(self, keeper, hall, state, log):
        """Check all that the keeper tells."""
        self.assertEqual(repr(keeper.hall()), repr(hall))
        self.assertEqual(repr(keeper.state()), repr(state))
        self.assertEqual(repr(keeper.log()), repr(list(log)))
        self.assertEqual(repr(keeper.counts()), repr(counts(hall, state)))
        self.assertEqual(repr(keeper.trail()), repr(trail_of(log)))
        self.assertEqual(repr(keeper.way_back()), repr(trail_of(log)[::-1]))
        self.assertEqual(len(keeper), len(state[1]))
        self.assertEqual(repr(keeper), f"Keeper({len(hall[0])}, {len(state[1])})")
        self.assertEqual(keeper, Keeper(hall, state))

    def stays(self, keeper, error, values, call, *args, **named):
        """Check that the call raises this error and that nothing changes."""
        before = (keeper.hall(), keeper.state(), keeper.log())
        self.raises(error, values, call, *args, **named)
        self.sees(keeper, *before)

    def taken_back(self, keeper, hall, states, log):
        """Check each undo, back to the first of the states, and one more."""
        for many in range(len(log), 0, -1):
            self.sees(keeper, hall, states[many], log[:many])
            self.assertIs(keeper.undo(), True)
        self.sees(keeper, hall, states[0], [])
        self.assertIs(keeper.undo(), False)
        self.sees(keeper, hall, states[0], [])


class MakingTest(KeeperCase):

    def test_halls_and_states(self):
        dice = model.Dice(121)
        for hall, state in [dice.hall_and_state() for _ in range(100)] + [(LONE, ((), ())), (H, S)]:
            self.sees(Keeper(hall, state), hall, state, [])

    def test_values_that_are_no_hall(self):
        values = NO_TUPLES + (
            (), ((),), ((), ()), (("a", "a"), ()), (("A",), ()), (("a",), (("x", "a", "a"),)), H + ((),), (H,), nested("a", 12),
            (("a", "b"), (("x", "a", "b"), ("x", "a", "b"))), (tuple("abcdefghi"), ()), (("a", 1), ()), (H[0], H[1] * 5),
        )
        for value in values:
            with self.assertRaises(InvalidHall) as caught:
                validate_hall(value)
            wanted = {"reason": caught.exception.reason, "index": caught.exception.index}
            for state in (S, None, (), ((), ()), True, nested((), 12)):
                self.raises(InvalidHall, wanted, Keeper, value, state)

    def test_values_that_are_no_state(self):
        values = NO_TUPLES + (
            (), ((),), ((), ()), (S[0],), (S[0], S[1], ()), (("a", "b"), ()), (("c", "b", "c"), ()), (S[0], (("P", "a"),)),
            (S[0], (("p", "d"),)), (S[0], (("q", "a"), ("p", "a"))), (S[0], FIVE + (("u", "a"),)), (S,), nested("a", 12),
            (S[0], (("p", "a"), ("p", "a"))), (S[0], ("pa",)), (S[0], (("p", True),)), ((True, "b", "c"), ()),
        )
        for value in values:
            with self.assertRaises(InvalidState) as caught:
                validate_state(H, value)
            wanted = {"reason": caught.exception.reason, "index": caught.exception.index}
            self.raises(InvalidState, wanted, Keeper, H, value)

    def test_by_name(self):
        self.sees(Keeper(state=S, hall=H), H, S, [])


class ChangesTest(KeeperCase):

    def test_example(self):
        keeper = Keeper(H, S)
        keeper.pass_door("p", "x")
        self.assertEqual(
            (keeper.log(), keeper.state(), keeper.undo(), keeper.log()),
            ([("pass", "p", "x")], (("b", "b", "c"), (("p", "b"),)), True, []),
        )

    def test_each_method(self):
        for change in (("pass", "p", "x"), ("turn", "z"), ("put", "o", "c"), ("put", "q", "a"), ("remove", "p")):
            keeper = Keeper(H, S)
            self.assertIsNone(make(keeper, change))
            self.sees(keeper, H, after(H, S, change), [change])
            self.taken_back(keeper, H, [S, after(H, S, change)], [change])

    def test_methods_return_none(self):
        keeper = Keeper(H, S)
        results = (keeper.pass_door("p", "x"), keeper.turn("y"), keeper.put("q", "c"), keeper.remove("p"))
        self.assertEqual(results, (None,) * 4)

    def test_many_changes(self):
        keeper, states = Keeper(H, S), [S]
        for at, change in enumerate(CHANGES):
            make(keeper, change)
            states.append(after(H, states[-1], change))
            self.sees(keeper, H, states[-1], CHANGES[:at + 1])
        self.taken_back(keeper, H, states, list(CHANGES))

    def test_hundreds_of_changes(self):
        dice = model.Dice(122)
        start = time.perf_counter()
        for _ in range(4):
            hall, state = dice.hall_and_state()
            keeper, states, log = Keeper(hall, state), [state], []
            while len(log) < 200:
                change = self.any_change(dice, hall)
                try:
                    wanted = after(hall, states[-1], change)
                except (HallError, KeyError) as error:
                    self.raises(type(error), vars(error), make, keeper, change)
                else:
                    make(keeper, change)
                    states.append(wanted)
                    log.append(change)
                self.assertEqual(keeper.state(), states[-1])
            self.taken_back(keeper, hall, states, log)
        self.assertLess(time.perf_counter() - start, 30)

    def any_change(self, dice, hall):
        kind = dice.random.choice(("pass", "pass", "pass", "turn", "put", "remove"))
        walker = dice.random.choice(("aw", "bw", "cw", "dw", "ew", "fw"))
        door = dice.random.choice([door[0] for door in hall[1]] + ["w"])
        room = dice.random.choice(hall[0])
        return {
            "pass": (kind, walker, door), "turn": (kind, door), "put": (kind, walker, room), "remove": (kind, walker),
        }[kind]

    def test_pass_door_errors_in_their_order(self):
        keeper = Keeper(H, S)
        keeper.turn("z")
        for name in NO_WALKERS:
            self.stays(keeper, UnknownWalker, {"name": name}, keeper.pass_door, name, "x")
            self.stays(keeper, UnknownWalker, {"name": name}, keeper.pass_door, name, "w")
        for name in NO_DOORS:
            self.stays(keeper, UnknownDoor, {"name": name}, keeper.pass_door, "p", name)
        self.stays(keeper, Blocked, {"index": 0}, keeper.pass_door, "p", "y")
        keeper.pass_door("p", "z")
        self.sees(keeper, H, (("a", "b", "c"), (("p", "c"),)), [("turn", "z"), ("pass", "p", "z")])

    def test_turn_errors(self):
        keeper = Keeper(H, S)
        for name in NO_DOORS:
            self.stays(keeper, UnknownDoor, {"name": name}, keeper.turn, name)
        keeper = Keeper(LONE, ((), ()))
        self.stays(keeper, UnknownDoor, {"name": "x"}, keeper.turn, "x")

    def test_put_errors_in_their_order(self):
        keeper = Keeper(H, (S[0], FIVE))
        for name in NO_NAMES:
            for room in ("a", "d", "", name):
                self.stays(keeper, Rejected, {"index": 0}, keeper.put, name, room)
        for room in NO_ROOMS:
            for walker in ("p", "u"):
                self.stays(keeper, UnknownRoom, {"name": room}, keeper.put, walker, room)
        for walker in "pqrst":
            self.stays(keeper, Mismatch, {"name": walker}, keeper.put, walker, "b")
        self.stays(keeper, Full, {"most": 5}, keeper.put, "u", "b")
        keeper.remove("r")
        keeper.put("u", "b")
        self.sees(keeper, H, (S[0], FIVE[:2] + FIVE[3:] + (("u", "b"),)), [("remove", "r"), ("put", "u", "b")])

    def test_remove_errors(self):
        keeper = Keeper(H, S)
        for name in NO_WALKERS:
            self.stays(keeper, UnknownWalker, {"name": name}, keeper.remove, name)
        keeper.remove("p")
        self.stays(keeper, UnknownWalker, {"name": "p"}, keeper.remove, "p")

    def test_by_name(self):
        keeper = Keeper(H, S)
        keeper.pass_door(door="x", walker="p")
        keeper.turn(door="z")
        keeper.put(room="c", walker="q")
        log = [("pass", "p", "x"), ("turn", "z"), ("put", "q", "c")]
        self.assertEqual(keeper.several(whole=False, changes=[("turn", "z")]), 1)
        self.sees(keeper, H, (("b", "b", "c"), (("p", "b"), ("q", "c"))), log + [("turn", "z")])


class UndoTest(KeeperCase):

    def test_nothing_to_undo(self):
        keeper = Keeper(H, S)
        for _ in range(3):
            self.assertIs(keeper.undo(), False)
        self.sees(keeper, H, S, [])

    def test_undo_between_changes(self):
        keeper = Keeper(H, S)
        keeper.pass_door("p", "x")
        keeper.put("q", "c")
        self.assertIs(keeper.undo(), True)
        keeper.turn("x")
        self.sees(keeper, H, (("a", "b", "c"), (("p", "b"),)), [("pass", "p", "x"), ("turn", "x")])
        self.assertIs(keeper.undo(), True)
        self.assertIs(keeper.undo(), True)
        self.sees(keeper, H, S, [])
        self.assertIs(keeper.undo(), False)
        keeper.remove("p")
        self.sees(keeper, H, (S[0], ()), [("remove", "p")])

    def test_undo_does_not_undo_an_error(self):
        keeper = Keeper(H, S)
        keeper.pass_door("p", "x")
        self.stays(keeper, Blocked, {"index": 0}, keeper.pass_door, "p", "z")
        self.assertIs(keeper.undo(), True)
        self.sees(keeper, H, S, [])

    def test_a_removed_walker_comes_back_to_its_room(self):
        keeper = Keeper(H, (S[0], (("o", "b"), ("p", "a"), ("q", "c"))))
        keeper.remove("p")
        self.assertIs(keeper.undo(), True)
        self.sees(keeper, H, (S[0], (("o", "b"), ("p", "a"), ("q", "c"))), [])


class SeveralTest(KeeperCase):

    def test_all_changes(self):
        states = [S]
        for change in CHANGES:
            states.append(after(H, states[-1], change))
        for named in ({}, {"whole": True}, {"whole": False}):
            for changes in (CHANGES, list(CHANGES)):
                keeper = Keeper(H, S)
                before = repr(changes)
                self.assertEqual(keeper.several(changes, **named), len(CHANGES))
                self.assertEqual(repr(changes), before)
                self.taken_back(keeper, H, states, list(CHANGES))

    def test_no_changes(self):
        keeper = Keeper(H, S)
        for named in ({}, {"whole": True}, {"whole": False}):
            for changes in ((), []):
                self.assertEqual(repr(keeper.several(changes, **named)), "0")
        self.sees(keeper, H, S, [])

    def test_twenty_changes(self):
        changes = [("pass", "p", door) for door in "xyzzyx" * 3] + [("turn", "x"), ("turn", "x")]
        keeper = Keeper(H, S)
        self.assertEqual(keeper.several(changes), 20)
        self.sees(keeper, H, S, changes)

    def test_a_wrong_item_at_each_place(self):
        for at in range(len(CHANGES) + 1):
            for wrong in NO_CHANGES[at % 3::3]:
                self.check_wrong(at, wrong)

    def test_an_error_at_each_place(self):
        for at in range(len(CHANGES) + 1):
            state = S
            for change in CHANGES[:at]:
                state = after(H, state, change)
            for wrong in WRONG_CHANGES:
                if not can_be_made(H, state, wrong):
                    self.check_wrong(at, wrong)

    def check_wrong(self, at, wrong):
        """Check what is done with a wrong item at this place among the changes."""
        states = [S]
        for change in CHANGES[:at]:
            states.append(after(H, states[-1], change))
        items = [*CHANGES[:at], wrong, *CHANGES[at:]]
        for changes in (items, tuple(items)):
            for named in ({}, {"whole": True}):
                keeper = Keeper(H, S)
                self.stays(keeper, Rejected, {"index": at}, keeper.several, changes, **named)
                self.sees(keeper, H, S, [])
            keeper = Keeper(H, S)
            self.raises(Rejected, {"index": at}, keeper.several, changes, whole=False)
            self.taken_back(keeper, H, states, list(CHANGES[:at]))

    def test_changes_before_it_remain_in_the_log(self):
        keeper = Keeper(H, S)
        keeper.put("q", "b")
        keeper.pass_door("p", "x")
        changes = [("turn", "y"), ("remove", "q"), ("remove", "q"), ("turn", "x")]
        self.stays(keeper, Rejected, {"index": 2}, keeper.several, changes)
        self.stays(keeper, Rejected, {"index": 2}, keeper.several, changes, whole=True)
        self.raises(Rejected, {"index": 2}, keeper.several, changes, whole=False)
        log = [("put", "q", "b"), ("pass", "p", "x"), ("turn", "y"), ("remove", "q")]
        self.sees(keeper, H, (("b", "c", "c"), (("p", "b"),)), log)
        for many in (3, 2, 1, 0):
            self.assertIs(keeper.undo(), True)
            self.assertEqual(keeper.log(), log[:many])
        self.sees(keeper, H, S, [])

    def test_each_item_is_checked_when_its_turn_comes(self):
        keeper = Keeper(H, S)
        self.assertEqual(keeper.several([("put", "q", "b"), ("pass", "q", "y"), ("remove", "q")]), 3)
        self.stays(keeper, Rejected, {"index": 0}, keeper.several, [("pass", "q", "y"), None, ("put", "q", "b")])
        self.stays(keeper, Rejected, {"index": 1}, keeper.several, [("turn", "x"), None, ("pass", "q", "y")])

    def test_a_later_change_to_the_list_has_no_effect(self):
        changes = [("turn", "x"), ("turn", "y")]
        keeper = Keeper(H, S)
        keeper.several(changes)
        changes.clear()
        self.assertEqual(keeper.log(), [("turn", "x"), ("turn", "y")])

    def test_whole_is_passed_by_name_only(self):
        with self.assertRaises(TypeError):
            Keeper(H, S).several([], True)


class TellingTest(KeeperCase):

    def test_trail(self):
        keeper = Keeper(H, S)
        self.assertEqual((keeper.trail(), keeper.way_back()), ((), ()))
        keeper.pass_door("p", "x")
        keeper.pass_door("p", "y")
        self.assertEqual(keeper.trail(), (("p", "x"), ("p", "y")))
        self.assertEqual(keeper.way_back(), (("p", "y"), ("p", "x")))
        for change in (("turn", "z"), ("put", "q", "c"), ("remove", "p")):
            make(keeper, change)
            self.assertEqual((keeper.trail(), keeper.way_back()), ((), ()))
            keeper.undo()
            self.assertEqual(keeper.trail(), (("p", "x"), ("p", "y")))
        keeper.turn("x")
        keeper.pass_door("p", "y")
        self.assertEqual((keeper.trail(), keeper.way_back()), ((("p", "y"),), (("p", "y"),)))

    def test_way_back_leads_back(self):
        dice = model.Dice(123)
        for _ in range(40):
            hall, state = dice.hall_and_state()
            row = dice.walk(hall, state, 60)
            keeper = Keeper(hall, state)
            for walker, door in row:
                keeper.pass_door(walker, door)
            self.assertEqual(keeper.trail(), row)
            self.assertEqual(keeper.way_back(), reverse(row))
            self.assertEqual(run(hall, keeper.state(), keeper.way_back()), state)
            self.assertEqual(run(hall, state, keeper.trail()), keeper.state())

    def test_a_list_that_is_emptied(self):
        keeper = Keeper(H, S)
        keeper.several(CHANGES)
        first = keeper.log()
        self.assertIs(type(first), list)
        self.assertIsNot(first, keeper.log())
        first.clear()
        self.assertEqual(keeper.log(), list(CHANGES))
        keeper.log().append(("turn", "x"))
        self.assertEqual(keeper.log(), list(CHANGES))
        kept = keeper.log()
        keeper.undo()
        self.assertEqual(kept, list(CHANGES))

    def test_counts(self):
        keeper = Keeper(BRIDGE, (("a",), (("p", "b"), ("q", "b"))))
        self.assertEqual(keeper.counts(), (1, -2))
        keeper.turn("x")
        self.assertEqual(keeper.counts(), (0, -1))
        keeper.put("r", "a")
        self.assertEqual(keeper.counts(), (-1, -1))
        keeper.pass_door("p", "x")
        self.assertEqual(keeper.counts(), (-1, -1))

    def test_len(self):
        keeper = Keeper(H, (S[0], ()))
        for many, (walker, room) in enumerate(FIVE):
            self.assertEqual(len(keeper), many)
            keeper.put(walker, room)
        self.assertEqual(len(keeper), 5)
        keeper.remove("q")
        self.assertEqual(len(keeper), 4)

    def test_repr(self):
        self.assertEqual(repr(Keeper(H, S)), "Keeper(3, 1)")
        self.assertEqual(repr(Keeper(LONE, ((), ()))), "Keeper(1, 0)")
        hall = wide_hall(8, 12)
        self.assertEqual(repr(Keeper(hall, wide_state(hall, 5))), "Keeper(8, 5)")
        keeper = Keeper(H, S)
        keeper.put("q", "a")
        self.assertEqual(repr(keeper), "Keeper(3, 2)")

    def test_equal(self):
        keeper, other = Keeper(H, S), Keeper(H, S)
        self.assertIs(keeper == other, True)
        self.assertIs(keeper != other, False)
        self.assertIs(keeper == keeper, True)
        keeper.pass_door("p", "x")
        self.assertIs(keeper == other, False)
        self.assertIs(keeper != other, True)
        keeper.pass_door("p", "x")
        # The log does not count.
        self.assertIs(keeper == other, True)
        self.assertNotEqual(keeper.log(), other.log())
        turned = (H[0], H[1][::-1])
        self.assertIs(keeper == Keeper(turned, (S[0][::-1], S[1])), False)
        self.assertIs(Keeper(LONE, ((), ())) == Keeper((("b",), ()), ((), ())), False)
        self.assertIs(Keeper(H, (S[0], ())) == Keeper(H, S), False)

    def test_equal_to_nothing_else(self):
        keeper = Keeper(H, S)
        for other in (None, True, 0, 1, "", "Keeper(3, 1)", (), (H, S), [H, S], H, S, {}, object(), Keeper, ("Keeper", H, S)):
            self.assertIs(keeper == other, False)
            self.assertIs(other == keeper, False)
            self.assertIs(keeper != other, True)

    def test_asking_changes_nothing(self):
        keeper = Keeper(H, S)
        keeper.several(CHANGES)
        for _ in range(2):
            self.sees(keeper, H, keeper.state(), CHANGES)

    def test_two_keepers_side_by_side(self):
        one, other = Keeper(H, S), Keeper(H, S)
        one.pass_door("p", "x")
        other.put("q", "b")
        self.sees(one, H, (("b", "b", "c"), (("p", "b"),)), [("pass", "p", "x")])
        self.sees(other, H, (S[0], (("p", "a"), ("q", "b"))), [("put", "q", "b")])
        one.undo()
        self.sees(one, H, S, [])
        self.sees(other, H, (S[0], (("p", "a"), ("q", "b"))), [("put", "q", "b")])
        self.raises(Rejected, {"index": 1}, one.several, [("turn", "x"), ()], whole=False)
        self.sees(other, H, (S[0], (("p", "a"), ("q", "b"))), [("put", "q", "b")])


if __name__ == "__main__":
    unittest.main()
