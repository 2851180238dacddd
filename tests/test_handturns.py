"""Stage 10: turning doors by hand."""

import itertools
import time
import unittest

from tests import answers, model
from tests.samples import H, NO_TUPLES, S, Case, changed, nested, wide_hall, wide_state
from turndoors.errors import Unbalanced
from turndoors.handturns import fewest_turns, is_fewest
from turndoors.moves import turn_door
from turndoors.states import counts

LONE = (("a",), ())
BRIDGE = (("a", "b"), (("x", "a", "b"),))


def small_states():
    """Return the small halls, each with some of its states of up to two walkers."""
    return [pair for walkers in ("", "p", "pq") for pair in model.small_states(walkers, 5)]


def wanted_counts(hall, state, most):
    """Return all tuples of counts that differ by at most so much in each room, and have the same sum."""
    now = answers.counts(hall, state)
    found = []
    for needs in itertools.product(range(-most, most + 1), repeat=len(now)):
        if sum(needs) == 0:
            found.append(tuple(count + need for count, need in zip(now, needs)))
    return found


class TurnsCase(Case):

    def check(self, hall, state, wanted, fewest=None):
        """Check what fewest_turns answers by its own proof, and return the number of turns, or None for never."""
        result = self.answer(fewest_turns, hall, state, wanted)
        self.assertIs(is_fewest(hall, state, wanted, result), True)
        if result[0] == "turns":
            self.assertTrue(answers.proves_turns(hall, state, wanted, result), result)
            now = state
            for door in result[1]:
                now = turn_door(hall, now, door)
            self.assertEqual(counts(hall, now), wanted)
            return len(result[1])
        self.assertTrue(answers.proves_never(hall, state, wanted, result), result)
        return None


class FewestTurnsTest(TurnsCase):

    def test_example(self):
        self.assertEqual(fewest_turns(H, S, (1, 0, 1))[:2], ("turns", ("y", "z")))
        self.assertEqual(self.check(H, S, (1, 0, 1)), 2)

    def test_against_all_choices_of_doors(self):
        seen = set()
        for hall, state in small_states():
            for wanted in wanted_counts(hall, state, 2)[::1 if len(hall[0]) < 4 else 5]:
                fewest = answers.fewest(hall, state, wanted)
                self.assertEqual(self.check(hall, state, wanted), fewest)
                seen.add(fewest)
        self.assertEqual(seen, {None, 0, 1, 2, 3})

    def test_middle_halls_against_all_choices_of_doors(self):
        dice = model.Dice(91)
        for n in range(60):
            hall = dice.hall(3 + n % 4, 8)
            state = dice.state(hall, 3)
            other = dice.state(hall, 0)[0]
            wanted = answers.counts(hall, (other, state[1]))
            self.assertEqual(self.check(hall, state, wanted), answers.fewest(hall, state, wanted))
            at = dice.random.randrange(len(hall[0]))
            changes = [0] * len(hall[0])
            changes[at], changes[at - 1] = 1, -1
            wanted = tuple(count + change for count, change in zip(wanted, changes))
            self.assertEqual(self.check(hall, state, wanted), answers.fewest(hall, state, wanted))

    def test_counts_as_they_are(self):
        for hall, state in small_states()[::4]:
            self.assertEqual(fewest_turns(hall, state, counts(hall, state))[:2], ("turns", ()))
            self.assertEqual(self.check(hall, state, counts(hall, state)), 0)
        hall = wide_hall(8, 12)
        self.assertEqual(self.check(hall, wide_state(hall, 5), counts(hall, wide_state(hall, 5))), 0)

    def test_no_doors(self):
        self.assertEqual(self.check(LONE, ((), ()), (0,)), 0)
        self.assertEqual(self.check(LONE, ((), (("p", "a"),)), (-1,)), 0)
        self.assertIsNone(self.check((("a", "b"), ()), ((), ()), (1, -1)))
        self.assertIsNone(self.check((("a", "b"), ()), ((), (("p", "b"),)), (-1, 0)))

    def test_negative_counts(self):
        state = (("a",), (("p", "b"), ("q", "b"), ("r", "a")))
        self.assertEqual(counts(BRIDGE, state), (0, -2))
        self.assertEqual(self.check(BRIDGE, state, (-1, -1)), 1)
        self.assertIsNone(self.check(BRIDGE, state, (-2, 0)))
        self.assertIsNone(self.check(BRIDGE, state, (1, -3)))

    def test_the_way_with_more_doors_where_the_other_one_is_taken(self):
        # Both rooms need the door from m, so one of them must get its turn by a longer way.
        hall = (("m", "n", "s", "t", "u"), (
            ("a", "m", "s"), ("b", "m", "t"), ("c", "n", "u"), ("d", "u", "t"), ("e", "n", "m"),
        ))
        state = (("m", "m", "n", "u", "n"), ())
        now = counts(hall, state)
        for needs in ((-1, -1, 1, 1, 0), (0, -2, 1, 1, 0), (0, -2, 0, 2, 0), (0, -1, 0, 1, 0), (-2, 0, 1, 1, 0)):
            wanted = tuple(count + need for count, need in zip(now, needs))
            self.assertEqual(self.check(hall, state, wanted), answers.fewest(hall, state, wanted))

    def test_a_turn_that_is_taken_back(self):
        # The nearest room takes the middle door first; the second one has no way unless that turn is taken back.
        hall = (("s", "u", "v", "t"), (
            ("su", "s", "u"), ("uv", "u", "v"), ("vt", "v", "t"), ("sv", "s", "v"), ("ut", "u", "t"),
        ))
        for order in itertools.permutations(range(5)):
            doors = tuple(hall[1][at] for at in order)
            state = (tuple(door[1] for door in doors), ())
            wanted = tuple(
                count + need for count, need in zip(counts((hall[0], doors), state), (-2, 0, 0, 2))
            )
            self.assertEqual(self.check((hall[0], doors), state, wanted), 4)

    def test_large_halls(self):
        dice = model.Dice(92)
        seen = set()
        for n in range(400):
            hall = dice.hall(8 - n % 4, 12)
            state = dice.state(hall, 5)
            wanted = answers.counts(hall, (dice.state(hall, 0)[0], state[1]))
            turns = self.check(hall, state, wanted)
            self.assertIsNotNone(turns)
            seen.add(turns)
            wanted = list(wanted)
            for _ in range(1 + n % 3):
                wanted[dice.random.randrange(len(wanted))] += 1
                wanted[dice.random.randrange(len(wanted))] -= 1
            seen.add(self.check(hall, state, tuple(wanted)))
        self.assertTrue(seen >= {None, 1, 2, 3, 4, 5, 6, 7}, seen)

    def test_all_twelve_doors(self):
        hall = (("a", "b"), tuple((name, "a", "b") for name in "abcdefghijkl"))
        for turns in range(13):
            self.assertEqual(self.check(hall, (("a",) * 12, ()), (12 - turns, turns)), turns)
        self.assertIsNone(self.check(hall, (("a",) * 12, ()), (-1, 13)))
        self.assertIsNone(self.check(hall, (("a",) * 12, ()), (13, -1)))
        # A door that faces away has to turn, and the heights say that none turns for nothing.
        self.assertEqual(self.check(hall, (("a", "b") * 6, ()), (12, 0)), 6)
        self.assertEqual(self.check(hall, (("a", "b") * 6, ()), (0, 12)), 6)

    def test_counts_at_the_bounds(self):
        self.assertIsNone(self.check(BRIDGE, (("a",), (("p", "a"),)), (20, -20)))
        self.assertIsNone(self.check(BRIDGE, (("a",), (("p", "a"),)), (-20, 20)))
        hall = wide_hall(8, 12)
        state = wide_state(hall, 5)
        now = counts(hall, state)
        wanted = (20, -20, 20, -20, 20, -20, 20, sum(now) - 20)
        self.assertIsNone(self.check(hall, state, wanted))
        self.assertIsNone(self.check(hall, state, tuple(-number for number in wanted[:7]) + (sum(now) + 20,)))

    def test_rooms_where_no_choice_works(self):
        self.gives(("never", ("a",)), fewest_turns, BRIDGE, (("a",), ()), (2, -1))
        self.gives(("never", ("b",)), fewest_turns, BRIDGE, (("a",), ()), (-1, 2))
        self.assertIsNone(self.check(H, S, (3, -1, 0)))

    def test_unbalanced(self):
        for wanted in itertools.product((-20, -1, 0, 1, 2, 20), repeat=3):
            difference = sum(wanted) - 2
            if difference != 0:
                self.raises(Unbalanced, {"difference": difference}, fewest_turns, H, S, wanted)
                for value in (None, True, (), ("never", ("a",)), ("turns", (), (0, 0, 0)), nested("", 12)):
                    self.raises(Unbalanced, {"difference": difference}, is_fewest, H, S, wanted, value)
            else:
                self.check(H, S, wanted)
        self.raises(Unbalanced, {"difference": 20}, fewest_turns, LONE, ((), ()), (20,))
        self.raises(Unbalanced, {"difference": -19}, fewest_turns, LONE, ((), (("p", "a"),)), (-20,))

    def test_an_answer_comes_quickly(self):
        dice = model.Dice(93)
        asked = []
        for _ in range(200):
            hall = dice.hall(8, 12)
            state = dice.state(hall, 5)
            asked.append((hall, state, answers.counts(hall, (dice.state(hall, 0)[0], state[1]))))
        start = time.perf_counter()
        for hall, state, wanted in asked:
            is_fewest(hall, state, wanted, fewest_turns(hall, state, wanted))
        # It takes some tenths of a second.
        self.assertLess(time.perf_counter() - start, 20)

    def test_by_name(self):
        self.assertEqual(fewest_turns(wanted=(1, 0, 1), state=S, hall=H)[1], ("y", "z"))


class IsFewestTest(TurnsCase):

    def test_example(self):
        self.gives(True, is_fewest, H, S, (1, 0, 1), ("turns", ("y", "z"), (2, 0, 1)))

    def test_heights(self):
        for heights in itertools.product(range(-1, 4), repeat=3):
            value = ("turns", ("y", "z"), heights)
            self.gives(answers.proves_turns(H, S, (1, 0, 1), value), is_fewest, H, S, (1, 0, 1), value)
        for high in (10 ** 3990, -(10 ** 3990)):
            self.gives(True, is_fewest, H, S, (1, 0, 1), ("turns", ("y", "z"), (high + 2, high, high + 1)))
            self.gives(False, is_fewest, H, S, (1, 0, 1), ("turns", ("y", "z"), (2, 0, high)))

    def test_more_turns_than_the_fewest(self):
        # To turn all three doors gives the counts that there are already.
        self.gives(True, is_fewest, H, S, (0, 1, 1), ("turns", (), (0, 0, 0)))
        for heights in itertools.product(range(-3, 4), repeat=3):
            self.gives(False, is_fewest, H, S, (0, 1, 1), ("turns", ("x", "y", "z"), heights))

    def test_doors(self):
        heights = (2, 0, 1)
        for size in range(4):
            for doors in itertools.product("xyzw", repeat=size):
                self.gives(doors == ("y", "z"), is_fewest, H, S, (1, 0, 1), ("turns", doors, heights))

    def test_booleans_in_place_of_numbers(self):
        self.gives(False, is_fewest, H, S, (1, 0, 1), ("turns", ("y", "z"), (2, 0, True)))
        self.gives(False, is_fewest, H, S, (1, 0, 1), ("turns", ("y", "z"), (2, False, 1)))
        self.gives(False, is_fewest, H, S, (0, 1, 1), ("turns", (), (False, False, False)))

    def test_never(self):
        wanted = (3, -1, 0)
        rooms = [rooms for size in range(4) for rooms in itertools.permutations("abc", size)]
        seen = set()
        for value in [("never", chosen) for chosen in rooms]:
            self.gives(answers.proves_never(H, S, wanted, value), is_fewest, H, S, wanted, value)
            seen.add(is_fewest(H, S, wanted, value))
        self.assertEqual(seen, {True, False})
        self.gives(True, is_fewest, H, S, wanted, ("never", ("c", "a")))
        self.gives(True, is_fewest, H, S, wanted, ("never", ("a", "c")))
        for chosen in ((), ("a", "a"), ("a", "d"), ("a", ""), "a", ("a", 0), (("a",),), None, True, ("a", None)):
            self.gives(False, is_fewest, H, S, wanted, ("never", chosen))
        # Only a sum that is greater than the number of doors is one.
        self.gives(False, is_fewest, H, S, (1, 0, 1), ("never", ("a",)))

    def test_never_both(self):
        for hall, state in small_states()[::9]:
            for wanted in wanted_counts(hall, state, 1):
                never = answers.fewest(hall, state, wanted) is None
                for rooms in model.tuples_of_lots(hall[0], 1):
                    value = ("never", *rooms)
                    if is_fewest(hall, state, wanted, value):
                        self.assertTrue(never)

    def test_values_against_the_words(self):
        dice = model.Dice(94)
        seen = set()
        for hall, state in dice.random.sample(small_states(), 25):
            for wanted in dice.random.sample(wanted_counts(hall, state, 1), 1):
                result = fewest_turns(hall, state, wanted)
                for value in [result, *changed(result), ("never", hall[0][:1]), ("turns", (), (0,) * len(hall[0]))]:
                    fits = answers.proves_turns(hall, state, wanted, value)
                    fits = fits or answers.proves_never(hall, state, wanted, value)
                    self.assertIs(is_fewest(hall, state, wanted, value), fits, value)
                    seen.add((value[0] if fits else None, fits))
        self.assertEqual(seen, {("turns", True), ("never", True), (None, False)})

    def test_values_of_other_kinds(self):
        cases = (((1, 0, 1), ("turns", ("y", "z"), (2, 0, 1))), ((3, -1, 0), ("never", ("a",))))
        for wanted, value in cases:
            self.gives(True, is_fewest, H, S, wanted, value)
            for other in NO_TUPLES + (
                (), value[:1], value[:2] if len(value) == 3 else value + ((),), value + ((0, 0, 0),) * 2, value[1:], (value,),
                value[::-1], ("turns",), ("never",), ("Turns",) + value[1:], (None,) + value[1:], (True,) + value[1:],
                ("turns", ("y", "z"), (2, 0)), ("turns", ("y", "z"), (2, 0, 1, 0)), ("turns", "yz", (2, 0, 1)),
                ("turns", ("y", "z"), "201"), ("turns", ("y", "z"), ("2", "0", "1")), ("turns", ("y", 0), (2, 0, 1)),
                ("turns", (("y",), "z"), (2, 0, 1)), ("turns", None, None), ("never", ("y", "z"), (2, 0, 1)),
                nested("turns", 12), nested((), 12),
            ):
                self.gives(False, is_fewest, H, S, wanted, other)

    def test_by_name(self):
        value = ("turns", ("y", "z"), (2, 0, 1))
        self.assertIs(is_fewest(value=value, wanted=(1, 0, 1), state=S, hall=H), True)


if __name__ == "__main__":
    unittest.main()
