"""What holds of rows, counts, reaches and grounds after two rooms are glued."""

import itertools
import unittest

from tests import model
from tests.samples import Case
from turndoors.bands import bands, reach, still_doors
from turndoors.connect import connect
from turndoors.halls import glue
from turndoors.histories import least_row
from turndoors.moves import can_pass, reverse, run
from turndoors.states import counts, crowd, glue_state, validate_state


def glued_cases(seed):
    """Return halls and states, each with two rooms that no door joins: large ones, and small ones."""
    dice = model.Dice(seed)
    cases = [dice.hall_and_state() for _ in range(120)]
    for hall in model.small_halls():
        states = model.all_states(hall, "pq")
        cases.extend([(hall, state) for state in states[::1 + len(states) // 5]])
    found = []
    for hall, state in cases:
        joined = [set(ends) for _, *ends in hall[1]]
        for one, other in itertools.permutations(hall[0], 2):
            if {one, other} not in joined:
                found.append((hall, state, one, other))
    return found


class GluedTest(Case):

    def test_a_row_leads_to_the_glued_state(self):
        dice = model.Dice(41)
        for hall, state, one, other in glued_cases(42):
            row = dice.walk(hall, state, 12)
            there = run(glue(hall, one, other), glue_state(state, one, other), row)
            self.assertEqual(there, glue_state(run(hall, state, row), one, other))
            self.assertTrue(validate_state(glue(hall, one, other), there))
            self.assertEqual(run(glue(hall, one, other), there, reverse(row)), glue_state(state, one, other))
            self.assertEqual(run(glue(hall, one, other), glue_state(state, one, other), least_row(row)), there)

    def test_what_can_be_passed_can_still_be_passed(self):
        for hall, state, one, other in glued_cases(43)[::3]:
            for walker, room in state[1]:
                for door, *_ in hall[1]:
                    if can_pass(hall, state, walker, door):
                        self.assertTrue(can_pass(glue(hall, one, other), glue_state(state, one, other), walker, door))

    def test_counts_and_crowds_are_added(self):
        for hall, state, one, other in glued_cases(44):
            for numbers in (counts, crowd):
                wanted = dict(zip(hall[0], numbers(hall, state)))
                wanted[one] += wanted.pop(other)
                found = numbers(glue(hall, one, other), glue_state(state, one, other))
                self.assertEqual(found, tuple(wanted.values()))

    def test_reaches_grow(self):
        for hall, state, one, other in glued_cases(45)[::3]:
            for walker, _ in state[1]:
                old = {one if room == other else room for room in reach(hall, state, walker)}
                self.assertLessEqual(old, set(reach(glue(hall, one, other), glue_state(state, one, other), walker)))

    def test_bands_and_grounds_grow(self):
        for hall, state, one, other in glued_cases(46):
            new = bands(glue(hall, one, other), glue_state(state, one, other))
            for walkers, ground in bands(hall, state):
                rooms = {one if room == other else room for room in ground}
                around = [part for part in new if set(walkers) <= set(part[0]) and rooms <= set(part[1])]
                self.assertEqual(len(around), 1)
            still = still_doors(glue(hall, one, other), glue_state(state, one, other))
            self.assertLessEqual(set(still), set(still_doors(hall, state)))

    def test_what_can_be_reached_can_still_be_reached(self):
        dice = model.Dice(47)
        for hall, state, one, other in glued_cases(48)[::3]:
            target = run(hall, state, dice.walk(hall, state, 12))
            states = [glue_state(state, one, other), glue_state(target, one, other)]
            self.assertEqual(connect(glue(hall, one, other), *states)[0], "row")
            kind, row = connect(hall, state, target)
            self.assertEqual(run(glue(hall, one, other), states[0], row), states[1])

    def test_walkers_of_two_bands_come_together(self):
        hall = (("a", "b", "c", "d"), (("x", "a", "b"), ("y", "c", "d")))
        state = (("a", "c"), (("p", "a"), ("q", "c")))
        self.assertEqual(bands(hall, state), ((("p",), ("a", "b")), (("q",), ("c", "d"))))
        new = (glue(hall, "d", "b"), glue_state(state, "d", "b"))
        self.assertEqual(bands(*new), ((("p", "q"), ("a", "c", "d")),))
        target = (("a", "c"), (("p", "c"), ("q", "a")))
        self.assertEqual(connect(hall, state, target)[0], "place")
        self.assertEqual(connect(*new, target)[0], "row")


if __name__ == "__main__":
    unittest.main()
