"""Stage 11: shortest rows."""

import itertools
import time
import unittest

from tests import answers, model
from tests.samples import H, NO_TUPLES, S, Case, changed, nested
from turndoors import shortest
from turndoors.connect import is_clash
from turndoors.errors import Mismatch, TooMany
from turndoors.moves import reverse, run
from turndoors.reachable import all_states, count_states
from turndoors.shortest import is_shortest, shortest_row

LONE = (("a",), ())
BRIDGE = (("a", "b"), (("x", "a", "b"),))
PARALLEL = (("a", "b"), tuple((name, "a", "b") for name in "abcdefghijkl"))
FIVE = ("p", "q", "r", "s", "t")

# Door y faces away from p and q, so their ground is a and b; r stands alone in d.
SPLIT = (("a", "b", "c", "d"), (("x", "a", "b"), ("y", "b", "c"), ("z", "c", "d")))
SPLIT_STATE = (("a", "c", "c"), (("p", "a"), ("q", "b"), ("r", "d")))

ROUND = (("b", "c", "a"), (("p", "a"),))
TURNED = (("a", "b", "a"), (("p", "a"),))


def table_of(hall, target):
    """Return the table with the numbers of deeds to the target."""
    return tuple(sorted(answers.distances(hall, target).items()))


def middle_states(seed, many, least=30):
    """Return halls of all sizes with states from which at least so many states, and not too many, can be reached."""
    dice = model.Dice(seed)
    found = []
    while len(found) < many:
        hall, state = dice.hall_and_state(rooms=8, doors=9)
        if least <= count_states(hall, state) <= 600:
            found.append((hall, state))
    return found


class ShortestCase(Case):

    def check(self, hall, state, target, reachable=None):
        """Check what shortest_row answers, and return the number of deeds, or None for a clash."""
        result = self.answer(shortest_row, hall, state, target)
        self.assertIs(is_shortest(hall, state, target, result), True)
        if result[0] == "row":
            found = model.reachable(hall, state)
            self.assertTrue(answers.is_shortest(hall, state, target, result, found))
            self.assertEqual(len(result[1]), answers.distances(hall, target)[state])
            self.assertEqual(run(hall, state, result[1]), target)
            self.assertEqual(run(hall, target, reverse(result[1])), state)
            self.assertEqual([there for there, _ in result[2]], all_states(hall, state))
        else:
            self.assertIs(is_clash(hall, state, target, result), True)
            self.assertIn(result, model.clashes(hall, state, target, [result[-1]] if len(result) == 3 else []))
        if reachable is not None:
            self.assertEqual(result[0] == "row", reachable)
        return len(result[1]) if result[0] == "row" else None


class ShortestRowTest(ShortestCase):

    def test_constant(self):
        self.assertEqual(shortest.FEW, 600)

    def test_example(self):
        kind, row, table = self.answer(shortest_row, H, S, S)
        self.assertEqual((kind, row, len(table)), ("row", (), 4))

    def test_row_and_table(self):
        self.assertEqual(shortest_row(H, S, ROUND)[:2], ("row", (("p", "x"), ("p", "y"), ("p", "z"))))
        self.assertEqual(self.check(H, S, ROUND), 3)
        self.assertEqual(self.check(H, ROUND, S), 3)

    def test_against_all_deeds(self):
        kinds = set()
        for walkers in ("", "p", "pq", "pqr"):
            for hall, state in model.small_states(walkers, 4):
                found = sorted(model.reachable(hall, state))
                for target in found[::1 + len(found) // 4]:
                    kinds.add(self.check(hall, state, target, True))
                for target in model.all_states(hall, walkers)[::1 + 2 ** len(hall[1]) * len(hall[0]) ** len(walkers) // 4]:
                    kinds.add(self.check(hall, state, target, target in found))
        self.assertTrue(kinds >= {None, 0, 1, 2, 3, 4}, kinds)

    def test_middle_halls(self):
        dice = model.Dice(101)
        lengths = set()
        for hall, state in middle_states(102, 25):
            target = dice.random.choice(sorted(model.reachable(hall, state)))
            lengths.add(self.check(hall, state, target, True))
            self.check(hall, state, (target[0], dice.shuffled(target[1])))
        self.assertGreater(max(lengths), 7)

    def test_each_kind_of_clash(self):
        self.assertEqual(shortest_row(H, S, TURNED)[0], "count")
        self.assertEqual(shortest_row(H, (S[0], ()), (("b", "c", "a"), ()))[0], "door")
        target = (("a", "c", "c"), (("p", "d"), ("q", "b"), ("r", "a")))
        self.assertEqual(shortest_row(SPLIT, SPLIT_STATE, target)[0], "place")
        for hall, state, there in ((H, S, TURNED), (SPLIT, SPLIT_STATE, target)):
            self.assertIsNone(self.check(hall, state, there, False))

    def test_no_doors_and_no_walkers(self):
        self.gives(("row", (), ((((), ()), 0),)), shortest_row, LONE, ((), ()), ((), ()))
        state = (S[0], ())
        self.gives(("row", (), ((state, 0),)), shortest_row, H, state, state)

    def test_mismatch(self):
        faces = S[0]
        cases = (
            ("p", S, (faces, ())), ("o", S, (faces, (("o", "a"), ("p", "a")))), ("p", S, (faces, (("q", "a"),))),
            ("a", (faces, (("b", "a"), ("d", "a"))), (faces, (("a", "a"), ("b", "a"), ("c", "a")))),
        )
        for name, one, other in cases:
            for state, target in ((one, other), (other, one)):
                self.raises(Mismatch, {"name": name}, shortest_row, H, state, target)
                self.raises(Mismatch, {"name": name}, shortest_row, H, state, target, most=1)
                for value in (None, (), True, ("row", (), ()), ("count", "a", 0, 1), nested("", 12)):
                    self.raises(Mismatch, {"name": name}, is_shortest, H, state, target, value)
                    self.raises(Mismatch, {"name": name}, is_shortest, H, state, target, value, most=1)

    def test_most(self):
        for target in (S, ROUND, TURNED):
            for most in (1, 2, 3):
                self.raises(TooMany, {"count": 4}, shortest_row, H, S, target, most=most)
                for value in (None, (), True, ("row", (), ()), ("count", "a", 0, 1), shortest_row(H, S, target)):
                    self.raises(TooMany, {"count": 4}, is_shortest, H, S, target, value, most=most)
            for most in (4, 5, 600):
                result = shortest_row(H, S, target, most=most)
                self.assertEqual(result, shortest_row(H, S, target))
                self.assertIs(is_shortest(H, S, target, result, most=most), True)

    def test_most_omitted(self):
        hall = (PARALLEL[0], PARALLEL[1][:6])
        state = (("a", "b") * 3, tuple(zip(FIVE, "ababa")))
        target = (("b", "a") * 3, tuple(zip(FIVE, "babaa")))
        self.assertEqual(count_states(hall, state), 462)
        self.assertEqual(self.check(hall, state, target, True), answers.distances(hall, target)[state])
        hall = (PARALLEL[0], PARALLEL[1][:7])
        state = (("a", "b") * 3 + ("a",), tuple(zip(FIVE, "ababa")))
        self.raises(TooMany, {"count": 924}, shortest_row, hall, state, state)
        self.raises(TooMany, {"count": 924}, is_shortest, hall, state, state, None)
        self.raises(TooMany, {"count": 924}, shortest_row, hall, state, state, most=600)
        state = (("a", "b") * 6, tuple(zip(FIVE, "ababa")))
        self.raises(TooMany, {"count": 24310}, shortest_row, PARALLEL, state, state)

    def test_too_many_also_if_the_target_cannot_be_reached(self):
        state = (("a", "b") * 6, tuple(zip(FIVE, "ababa")))
        target = (("a",) * 12, state[1])
        self.raises(TooMany, {"count": 24310}, shortest_row, PARALLEL, state, target)
        self.raises(TooMany, {"count": 24310}, is_shortest, PARALLEL, state, target, ("count", "a", 3, 9))

    def test_too_many_counts_the_states_of_the_first_one(self):
        # From the target other states can be reached, and more of them.
        hall = (("a", "b", "c"), (("x", "a", "b"), ("y", "b", "c"), ("z", "a", "c")))
        state, target = (("b", "b", "c"), (("p", "a"),)), (("a", "b", "c"), (("p", "a"),))
        self.assertEqual((count_states(hall, state), count_states(hall, target)), (1, 4))
        self.assertEqual(shortest_row(hall, state, target, most=1)[0], "count")
        self.raises(TooMany, {"count": 4}, shortest_row, hall, target, state, most=1)

    def test_an_answer_comes_quickly(self):
        asked = middle_states(103, 30, least=200)
        start = time.perf_counter()
        for hall, state in asked:
            target = all_states(hall, state)[-1]
            is_shortest(hall, state, target, shortest_row(hall, state, target))
        # It takes about a second.
        self.assertLess(time.perf_counter() - start, 30)

    def test_most_is_passed_by_name_only(self):
        with self.assertRaises(TypeError):
            shortest_row(H, S, S, 600)
        with self.assertRaises(TypeError):
            is_shortest(H, S, S, None, 600)

    def test_by_name(self):
        self.assertEqual(shortest_row(most=4, target=S, state=S, hall=H)[:2], ("row", ()))


class IsShortestTest(ShortestCase):

    def test_other_tables(self):
        # From p's room the way leads through b and c to a: the numbers of the states on it are 0 1 2 3.
        one, two, three, four = ROUND, (("b", "c", "c"), (("p", "c"),)), (("b", "b", "c"), (("p", "b"),)), S
        row = (("p", "x"), ("p", "y"), ("p", "z"))
        table = {one: 0, two: 1, three: 2, four: 3}
        self.gives(True, is_shortest, H, S, ROUND, ("row", row, tuple(sorted(table.items()))))
        seen = set()
        for state in table:
            for number in range(-5, 6):
                wrong = tuple(sorted({**table, state: number}.items()))
                self.gives(number == table[state], is_shortest, H, S, ROUND, ("row", row, wrong))
        # Where the row is shorter than the way round, numbers beyond it may be less, also negative.
        for first, second in itertools.product(range(-3, 4), repeat=2):
            table = {three: 0, four: 1, two: first, one: second}
            wanted = abs(first) <= 1 and abs(first - second) <= 1
            self.gives(wanted, is_shortest, H, S, three, ("row", (("p", "x"),), tuple(sorted(table.items()))))
            seen.add((wanted, second))
        self.assertTrue({(True, -2), (True, 2)} <= seen)

    def test_rows(self):
        result = shortest_row(H, S, ROUND)
        row, table = result[1:]
        self.gives(True, is_shortest, H, S, ROUND, ("row", row, table))
        for wrong in (
            (), row[:2], row[::-1], row + (("p", "x"), ("p", "x")), (("p", "x"), ("p", "x")) + row, row + row, row[1:],
            (("q", "x"),) + row[1:], (("p", "w"),) + row[1:], (("p",),) + row[1:], (("p", "x", "x"),) + row[1:],
            ("px",) + row[1:], (("p", 0),) + row[1:], (None,) + row[1:], "", None, 3, True,
        ):
            self.gives(False, is_shortest, H, S, ROUND, ("row", wrong, table))

    def test_a_longer_row_with_numbers_that_fit_it(self):
        row = (("p", "x"), ("p", "x"))
        table = shortest_row(H, S, S)[2]
        for add in range(-2, 3):
            value = ("row", row, tuple((state, number + add) for state, number in table))
            self.gives(False, is_shortest, H, S, S, value)
        self.gives(True, is_shortest, H, S, S, ("row", (), table))
        self.gives(False, is_shortest, H, S, S, ("row", row, table))

    def test_one_number_of_the_table_wrong(self):
        dice = model.Dice(104)
        for hall, state in middle_states(105, 8)[:8]:
            found = model.reachable(hall, state)
            target = dice.random.choice(sorted(found))
            kind, row, table = shortest_row(hall, state, target)
            for at in dice.random.sample(range(len(table)), 12):
                for number in (table[at][1] + 1, table[at][1] - 1, table[at][1] + 3, -table[at][1] - 4):
                    value = (kind, row, table[:at] + ((table[at][0], number),) + table[at + 1:])
                    wanted = answers.is_shortest(hall, state, target, value, found)
                    self.assertIs(is_shortest(hall, state, target, value), wanted)

    def test_one_state_more_or_less(self):
        kind, row, table = shortest_row(H, S, ROUND)
        for at in range(4):
            self.gives(False, is_shortest, H, S, ROUND, (kind, row, table[:at] + table[at + 1:]))
            self.gives(False, is_shortest, H, S, ROUND, (kind, row, table[:at] + (table[at],) + table[at:]))
            for more in ((TURNED, 1), (((), ()), 1), (S, 3), (None, 1), ("", 0)):
                self.gives(False, is_shortest, H, S, ROUND, (kind, row, table[:at] + (more,) + table[at:]))
                if more != table[at]:
                    self.gives(False, is_shortest, H, S, ROUND, (kind, row, table[:at] + (more,) + table[at + 1:]))
        self.gives(False, is_shortest, H, S, ROUND, (kind, row, table[::-1]))
        self.gives(False, is_shortest, H, S, ROUND, (kind, row, table[1:2] + table[:1] + table[2:]))

    def test_booleans_in_place_of_numbers(self):
        kind, row, table = shortest_row(H, S, S)
        for at, (state, number) in enumerate(table):
            if number in (0, 1):
                wrong = table[:at] + ((state, bool(number)),) + table[at + 1:]
                self.gives(False, is_shortest, H, S, S, (kind, row, wrong))

    def test_large_numbers(self):
        kind, row, table = shortest_row(H, S, S)
        for at, (state, number) in enumerate(table):
            for wrong in (10 ** 3999, -(10 ** 3999), number + 10 ** 3999):
                self.gives(False, is_shortest, H, S, S, (kind, row, table[:at] + ((state, wrong),) + table[at + 1:]))

    def test_clashes(self):
        self.gives(True, is_shortest, H, S, TURNED, ("count", "a", 0, 1))
        self.gives(True, is_shortest, H, S, TURNED, ("count", "c", 1, 0))
        self.gives(False, is_shortest, H, S, TURNED, ("count", "b", 1, 1))
        self.gives(False, is_shortest, H, S, TURNED, ("count", "a", False, True))
        self.gives(False, is_shortest, H, S, TURNED, shortest_row(H, S, S))
        self.gives(False, is_shortest, H, S, S, ("count", "a", 0, 1))
        self.gives(True, is_shortest, H, (S[0], ()), (ROUND[0], ()), ("door", "x", ()))
        self.gives(False, is_shortest, H, (S[0], ()), (ROUND[0], ()), ("row", (), (((S[0], ()), 0),)))

    def test_values_against_the_words(self):
        dice = model.Dice(106)
        seen = set()
        asked = [(H, S, ROUND), (H, S, S), (H, S, TURNED)]
        for hall, state in dice.random.sample(model.small_states("pq", 3), 12):
            found = model.reachable(hall, state)
            if len(found) < 40:
                asked.append((hall, state, dice.random.choice(sorted(found))))
        for hall, state, target in asked:
            found = model.reachable(hall, state)
            result = shortest_row(hall, state, target)
            for value in [result, *changed(result, 3)]:
                if target in found:
                    wanted = answers.is_shortest(hall, state, target, value, found)
                else:
                    wanted = value in model.clashes(hall, state, target, []) and bool not in map(type, value)
                self.assertIs(is_shortest(hall, state, target, value), wanted, value)
                seen.add(wanted)
        self.assertEqual(seen, {True, False})

    def test_values_of_other_kinds(self):
        for target in (S, ROUND, TURNED):
            value = shortest_row(H, S, target)
            for other in NO_TUPLES + (
                (), value[:1], value[:2], value[1:], value + ((),), (value,), value[::-1], ("row",), ("row", (), ()),
                ("row", (), None), ("row", (), ((),)), ("row", (), ("ab",)), ("row", (), (None,) * 4),
                ("row", (), ((S, 0),) * 4), ("row", (), ((S,),) * 4), (None,) + value[1:], ("Row",) + value[1:],
                nested("row", 12), nested((), 12),
            ):
                self.gives(False, is_shortest, H, S, target, other)

    def test_by_name(self):
        value = shortest_row(H, S, S)
        self.assertIs(is_shortest(most=600, value=value, target=S, state=S, hall=H), True)


if __name__ == "__main__":
    unittest.main()
