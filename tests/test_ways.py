"""What modules share: ways through the doors, steps between states, and rows that bring walkers together."""

import unittest

from tests import model
from tests.samples import H, S
from turndoors.exchanges import exchange_row, meeting_row
from turndoors.moves import end_of, run, steps_from
from turndoors.ways import spread, ways_from, ways_in, ways_of, ways_out


class WaysTest(unittest.TestCase):

    def test_spread(self):
        table = {1: [("a", 2), ("b", 3)], 2: [("c", 4)], 3: [("d", 4), ("e", 1)], 4: [("f", 5)], 5: []}
        found = spread(1, lambda here: table[here])
        self.assertEqual(found, {1: (), 2: ("a",), 3: ("b",), 4: ("a", "c"), 5: ("a", "c", "f")})
        self.assertEqual(list(found), [1, 2, 3, 4, 5])
        self.assertEqual(spread(5, lambda here: table[here]), {5: ()})

    def test_ways_from(self):
        self.assertEqual(ways_from(H, S[0], "a"), {"a": (), "b": ("x",), "c": ("x", "y")})
        self.assertEqual(ways_from(H, ("b", "b", "c"), "a"), {"a": ()})

    def test_ways_out(self):
        self.assertEqual(ways_out(H, ("a", "b", "a"), "a"), [("x", "b"), ("z", "c")])
        self.assertEqual(ways_out(H, ("b", "b", "c"), "b"), [("x", "a"), ("y", "c")])
        self.assertEqual(ways_out(H, ("b", "b", "c"), "a"), [])

    def test_ways_in(self):
        self.assertEqual(ways_in(H, S[0], ("b",)), ["x"])
        self.assertEqual(ways_in(H, S[0], ("c", "b")), ["x"])
        self.assertEqual(ways_in(H, ("b", "b", "c"), ("a",)), ["x", "z"])
        self.assertEqual(ways_in(H, S[0], ("a", "b", "c")), [])
        self.assertEqual(ways_in(H, S[0], ()), [])

    def test_ways_of(self):
        self.assertEqual(ways_of(H, S[0]), [("x", "a", "b"), ("y", "b", "c"), ("z", "c", "a")])
        self.assertEqual(ways_of((("a",), ()), ()), [])


class StepsTest(unittest.TestCase):

    def test_steps_from(self):
        dice = model.Dice(53)
        for hall, state in [dice.hall_and_state() for _ in range(100)]:
            wanted = {(deed, model.step(hall, state, deed)) for deed in model.deeds(hall, state)}
            found = steps_from(hall, state)
            self.assertEqual(len(found), len(wanted))
            self.assertEqual(set(found), wanted)

    def test_end_of(self):
        self.assertEqual(end_of(H, S, ()), S)
        self.assertEqual(end_of(H, S, (("p", "x"),)), (("b", "b", "c"), (("p", "b"),)))
        for value in (None, "px", ("px",), (("p",),), (("p", 1),), (("p", "y"),), (("q", "x"),), (("p", "x"), ("p", "z"))):
            self.assertIsNone(end_of(H, S, value))


class ExchangesTest(unittest.TestCase):

    def states(self, seed):
        dice = model.Dice(seed)
        return [dice.hall_and_state() for _ in range(150)]

    def test_meeting_row(self):
        for hall, state in self.states(51):
            reaches = model.reaches(hall, state)
            for one in reaches:
                for other in reaches:
                    row = meeting_row(hall, state, one, other)
                    if reaches[one] & reaches[other]:
                        places = dict(run(hall, state, row)[1])
                        self.assertEqual(places[one], places[other])
                        self.assertLessEqual({walker for walker, _ in row}, {one, other})
                    else:
                        self.assertIsNone(row)

    def test_exchange_row(self):
        for hall, state in self.states(52):
            for walkers, _ in model.bands(hall, state):
                for one in walkers:
                    for other in walkers - {one}:
                        wanted = dict(state[1])
                        wanted[one], wanted[other] = wanted[other], wanted[one]
                        there = run(hall, state, exchange_row(hall, state, one, other))
                        self.assertEqual(there, (state[0], tuple(sorted(wanted.items()))))


if __name__ == "__main__":
    unittest.main()
