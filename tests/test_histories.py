"""Stage 4: histories."""

import itertools
import unittest

from tests import model
from tests.samples import LETTERS, Case, nested
from turndoors.histories import is_ring, least_row, merge, projections, rounds, same_history
from turndoors.moves import run

CROSSED = ((("p", ("x", "y")), ("q", ("y", "x"))), (("x", ("q", "p")), ("y", ("p", "q"))))
CROSSED_RING = (("p", 0), ("q", 1), ("q", 0), ("p", 1))

# One walker with two doors, and so on, up to rows of so many deeds that all the rows are still few.
SHORT = sorted({
    row
    for walkers, doors, most in (("p", "xy", 3), ("pq", "x", 3), ("pq", "xy", 4), ("pqr", "xyz", 3))
    for length in range(most + 1)
    for row in itertools.product(itertools.product(walkers, doors), repeat=length)
})

LONG_NAMES = tuple(one + other for one in LETTERS[:5] for other in LETTERS[:4])


def some_rows():
    """Return rows of five to eight deeds."""
    dice = model.Dice(11)
    return [dice.row(dice.random.randint(2, 4), dice.random.randint(2, 4), 5 + n % 4) for n in range(200)]


def long_rows():
    """Return rows of up to 60 deeds with many walkers and doors."""
    dice = model.Dice(12)
    found = [dice.row(walkers, doors, 60) for walkers in (1, 2, 5, 26) for doors in (1, 2, 12, 26)]
    found.append(tuple(zip(LONG_NAMES[::-1] * 3, LONG_NAMES * 3)))
    found.append(tuple((LETTERS[n % 26] * (n // 26 + 1), "x" * (1 + n % 6)) for n in range(60)))
    found.append(tuple((one, other) for one in LONG_NAMES[:10] for other in LONG_NAMES[:6]))
    return found


class SameHistoryTest(Case):

    def test_example(self):
        self.gives(True, same_history, [("p", "x"), ("q", "y")], [("q", "y"), ("p", "x")])

    def test_against_all_exchanges(self):
        rows = [row for row in SHORT if len(row) == 3 and {name for name, _ in row} <= {"p", "q"}]
        for one in rows:
            same = model.exchanged(one)
            for other in rows:
                self.assertIs(same_history(one, other), other in same)

    def test_against_all_exchanges_of_longer_rows(self):
        dice = model.Dice(13)
        for row in some_rows():
            same = model.exchanged(row)
            for other in sorted(same)[:20]:
                self.gives(True, same_history, row, other)
            for _ in range(20):
                other = list(row)
                dice.random.shuffle(other)
                self.gives(tuple(other) in same, same_history, list(row), other)

    def test_other_deeds_or_other_lengths(self):
        row = [("p", "x"), ("q", "y"), ("p", "x")]
        self.gives(False, same_history, row, row[:2])
        self.gives(False, same_history, row, row + [("p", "x")])
        self.gives(False, same_history, row, [("p", "x"), ("q", "y"), ("p", "z")])
        self.gives(False, same_history, row, [("p", "x"), ("q", "y"), ("r", "x")])
        self.gives(False, same_history, [("p", "x"), ("q", "y")], [("p", "y"), ("q", "x")])

    def test_empty_row(self):
        self.gives(True, same_history, (), [])
        self.gives(False, same_history, (), [("p", "x")])
        self.gives(False, same_history, [("p", "x")], ())

    def test_tuples_and_lists_are_the_same_row(self):
        for row in SHORT[:40]:
            self.gives(True, same_history, row, list(row))
            self.gives(True, same_history, list(row), row)

    def test_a_walker_and_a_door_of_the_same_name(self):
        self.gives(True, same_history, [("a", "b"), ("b", "a")], [("b", "a"), ("a", "b")])
        self.gives(False, same_history, [("a", "a"), ("b", "a")], [("b", "a"), ("a", "a")])

    def test_same_history_leads_to_the_same_state(self):
        dice = model.Dice(14)
        for _ in range(100):
            hall, state = dice.hall_and_state()
            row = dice.walk(hall, state, 7)
            for other in sorted(model.exchanged(row))[:10]:
                self.assertIs(same_history(row, other), True)
                self.assertEqual(run(hall, state, other), run(hall, state, row))

    def test_by_name(self):
        self.assertIs(same_history(other=[("p", "x")], one=(("p", "x"),)), True)


class ProjectionsTest(Case):

    def test_example(self):
        self.gives(((("p", ("x",)), ("q", ("x",))), (("x", ("p", "q")),)), projections, [("p", "x"), ("q", "x")])

    def test_order_of_names_and_of_sequences(self):
        row = (("q", "z"), ("p", "y"), ("q", "x"), ("pp", "z"), ("q", "z"))
        wanted = (
            (("p", ("y",)), ("pp", ("z",)), ("q", ("z", "x", "z"))),
            (("x", ("q",)), ("y", ("p",)), ("z", ("q", "pp", "q"))),
        )
        self.gives(wanted, projections, row)
        self.gives(wanted, projections, list(row))

    def test_empty_row(self):
        self.gives(((), ()), projections, ())
        self.gives(((), ()), projections, [])

    def test_against_the_words(self):
        for row in SHORT + some_rows() + long_rows():
            walkers = sorted({walker for walker, _ in row})
            doors = sorted({door for _, door in row})
            wanted = (
                tuple((name, tuple(door for walker, door in row if walker == name)) for name in walkers),
                tuple((name, tuple(walker for walker, door in row if door == name)) for name in doors),
            )
            self.gives(wanted, projections, row)

    def test_by_name(self):
        self.assertEqual(projections(row=[("p", "x")]), ((("p", ("x",)),), (("x", ("p",)),)))


class LeastRowTest(Case):

    def test_example(self):
        self.gives((("p", "x"), ("q", "y")), least_row, [("q", "y"), ("p", "x")])

    def test_against_all_exchanges(self):
        for row in SHORT + some_rows():
            self.gives(min(model.exchanged(row)), least_row, row)
            self.gives(min(model.exchanged(row)), least_row, list(row))

    def test_empty_row(self):
        self.gives((), least_row, ())
        self.gives((), least_row, [])

    def test_long_rows(self):
        dice = model.Dice(15)
        for row in long_rows():
            least = self.answer(least_row, row)
            self.assertLessEqual(least, row)
            self.assertTrue(same_history(least, row))
            self.assertEqual(least_row(least), least)
            # A long row has too many exchanged rows to see them all, but each of them has the same least row.
            other = list(row)
            for _ in range(500):
                at = dice.random.randrange(len(other) - 1)
                if other[at][0] != other[at + 1][0] and other[at][1] != other[at + 1][1]:
                    other[at], other[at + 1] = other[at + 1], other[at]
            self.assertLessEqual(least, tuple(other))
            self.assertEqual(least_row(other), least)

    def test_deeds_that_have_nothing_to_do_with_each_other_are_sorted(self):
        row = tuple(zip(LONG_NAMES[::-1], LONG_NAMES))
        self.gives(tuple(sorted(row)), least_row, row)

    def test_by_name(self):
        self.assertEqual(least_row(row=[("p", "x")]), (("p", "x"),))


class RoundsTest(Case):

    def test_example(self):
        row = [("p", "x"), ("q", "y"), ("q", "x")]
        self.gives(((("p", "x"), ("q", "y")), (("q", "x"),)), rounds, row)
        self.gives(((("p", "x"), ("q", "y")), (("q", "x"),)), rounds, tuple(row))

    def test_empty_row(self):
        self.gives((), rounds, ())
        self.gives((), rounds, [])

    def test_a_walker_and_a_door_of_the_same_name(self):
        self.gives(((("a", "b"), ("b", "a")),), rounds, [("b", "a"), ("a", "b")])

    def test_against_the_words(self):
        for row in SHORT + some_rows() + long_rows():
            numbers = []
            for at, (walker, door) in enumerate(row):
                earlier = [numbers[k] for k in range(at) if row[k][0] == walker or row[k][1] == door]
                numbers.append(max(earlier) + 1 if earlier else 0)
            wanted = tuple(
                tuple(sorted(deed for deed, number in zip(row, numbers) if number == k))
                for k in range(max(numbers, default=-1) + 1)
            )
            self.gives(wanted, rounds, row)

    def test_form_and_history(self):
        for row in some_rows() + long_rows():
            found = rounds(row)
            for deeds in found:
                self.assertTrue(deeds)
                self.assertEqual(list(deeds), sorted(deeds))
                self.assertEqual(len({walker for walker, _ in deeds}), len(deeds))
                self.assertEqual(len({door for _, door in deeds}), len(deeds))
            self.assertTrue(same_history([deed for deeds in found for deed in deeds], row))

    def test_as_few_as_possible(self):
        for row in some_rows():
            fewest = len(row)
            for other in model.exchanged(row):
                number, walkers, doors = 1, set(), set()
                for walker, door in other:
                    if walker in walkers or door in doors:
                        number, walkers, doors = number + 1, set(), set()
                    walkers.add(walker)
                    doors.add(door)
                fewest = min(fewest, number)
            self.assertEqual(len(rounds(row)), fewest)

    def test_same_for_the_same_history(self):
        for row in some_rows():
            for other in sorted(model.exchanged(row))[:10]:
                self.assertEqual(rounds(other), rounds(row))

    def test_by_name(self):
        self.assertEqual(rounds(row=[("p", "x")]), ((("p", "x"),),))


class MergeTest(Case):

    def check_ring(self, walkers, doors, deeds):
        waits = model.waits(walkers, doors)
        self.assertGreater(len(deeds), 0)
        self.assertEqual(len(set(deeds)), len(deeds))
        for deed, follower in zip(deeds, deeds[1:] + deeds[:1]):
            self.assertEqual([type(part) for part in deed], [str, int])
            self.assertIn((deed, follower), waits)
        self.assertIs(is_ring(walkers, doors, deeds), True)

    def check(self, walkers, doors, rows):
        """Check the answer, where the rows are all those that may have these projections."""
        kind, *rest = self.answer(merge, walkers, doors)
        uneven = uneven_pairs(walkers, doors)
        fitting = [row for row in rows if projections(row) == (walkers, doors)]
        if uneven:
            self.assertEqual((kind, *rest), ("count", *min(uneven)))
        elif fitting:
            self.assertEqual((kind, *rest), ("row", min(fitting)))
        else:
            self.assertEqual((kind, len(rest)), ("ring", 1))
            self.check_ring(walkers, doors, rest[0])
        return kind

    def test_rows_from_their_projections(self):
        for row in SHORT + some_rows():
            self.gives(("row", min(model.exchanged(row))), merge, *projections(row))
        for row in long_rows():
            self.gives(("row", least_row(row)), merge, *projections(row))

    def test_empty(self):
        self.gives(("row", ()), merge, (), ())

    def test_ring_of_the_document(self):
        kind, deeds = self.answer(merge, *CROSSED)
        self.assertEqual((kind, len(deeds)), ("ring", 4))
        self.check_ring(*CROSSED, deeds)

    def test_projections_of_two_short_rows(self):
        kinds = set()
        for deeds in itertools.combinations_with_replacement(sorted(itertools.product("pq", "xy")), 4):
            rows = sorted(set(itertools.permutations(deeds)))
            found = sorted({projections(row) for row in rows})
            for walkers, _ in found:
                for _, doors in found:
                    kinds.add(self.check(walkers, doors, rows))
        self.assertEqual(kinds, {"row", "ring"})

    def test_projections_of_two_rows_with_three_walkers_and_doors(self):
        dice = model.Dice(16)
        kinds = []
        for _ in range(60):
            deeds = dice.random.sample(sorted(itertools.product("pqr", "xyz")), 6)
            rows = sorted(itertools.permutations(deeds))
            for _ in range(4):
                walkers, doors = projections(dice.random.choice(rows))[0], projections(dice.random.choice(rows))[1]
                kinds.append(self.check(walkers, doors, rows))
        self.assertGreater(kinds.count("row"), 20)
        self.assertGreater(kinds.count("ring"), 20)

    def test_projections_of_rows_with_other_deeds(self):
        rows = [row for row in SHORT if len(row) <= 3]
        dice = model.Dice(17)
        kinds = set()
        for _ in range(1500):
            one, other = dice.random.choice(rows), dice.random.choice(rows)
            kinds.add(self.check(projections(one)[0], projections(other)[1], rows))
        self.assertIn("count", kinds)

    def test_count_with_missing_sequences(self):
        self.gives(("count", "p", "x"), merge, (("p", ("x",)),), ())
        self.gives(("count", "p", "x"), merge, (), (("x", ("p",)),))
        self.gives(("count", "p", "x"), merge, (("p", ("x",)),), (("y", ("p",)),))
        self.gives(("count", "p", "x"), merge, (("q", ("x",)),), (("x", ("p",)),))
        self.gives(("count", "a", "z"), merge, (("q", ("x",)),), (("x", ("q",)), ("z", ("b", "a"))))

    def test_count_is_the_least_pair_and_comes_before_a_ring(self):
        walkers, doors = CROSSED
        self.gives(("count", "r", "z"), merge, walkers + (("r", ("z",)),), doors)
        self.gives(("count", "q", "z"), merge, walkers, doors + (("z", ("r", "q")),))
        self.gives(("count", "p", "z"), merge, (("p", ("z", "x", "y")), ("q", ("y", "x"))), doors)
        self.gives(("count", "p", "x"), merge, (("p", ("x", "y", "x")), ("q", ("y", "x"))), doors)
        # As a tuple, ("p", "xx") is less than ("pp", "x").
        self.gives(("count", "p", "xx"), merge, (("p", ("xx",)), ("pp", ("x",))), ())

    def test_count_with_the_same_names_on_both_sides(self):
        self.gives(("row", (("a", "a"),)), merge, (("a", ("a",)),), (("a", ("a",)),))
        self.gives(("count", "a", "b"), merge, (("a", ("b",)),), (("a", ("b",)),))

    def test_long_sequences_that_come_from_two_rows(self):
        dice = model.Dice(18)
        kinds = []
        for n in range(200):
            row = dice.row(dice.random.choice((1, 2, 5, 20)), dice.random.choice((1, 2, 5, 20)), 60)
            other = list(row)
            for _ in range(n % 5):
                one, two = dice.random.randrange(60), dice.random.randrange(60)
                other[one], other[two] = other[two], other[one]
            walkers, doors = projections(row)[0], projections(other)[1]
            kind, found = self.answer(merge, walkers, doors)
            kinds.append(kind)
            if kind == "row":
                self.assertEqual(projections(found), (walkers, doors))
                self.assertEqual(least_row(found), found)
            else:
                self.check_ring(walkers, doors, found)
        self.assertGreater(kinds.count("row"), 20)
        self.assertGreater(kinds.count("ring"), 20)

    def test_ring_through_twenty_walkers(self):
        names = tuple(LONG_NAMES[:20])
        walkers = tuple((name, (names[n], names[(n + 1) % 20])) for n, name in enumerate(names))
        doors = tuple((name, (names[n - 1], name)) for n, name in enumerate(names))
        kind, deeds = self.answer(merge, walkers, doors)
        self.assertEqual((kind, len(deeds)), ("ring", 40))
        self.check_ring(walkers, doors, deeds)

    def test_by_name(self):
        self.assertEqual(merge(doors=(("x", ("p",)),), walkers=(("p", ("x",)),)), ("row", (("p", "x"),)))


def uneven_pairs(walkers, doors):
    """Return all pairs of a walker and a door whose numbers differ."""
    passes, passers = dict(walkers), dict(doors)
    names = set(passes) | {name for sequence in passers.values() for name in sequence}
    others = set(passers) | {name for sequence in passes.values() for name in sequence}
    return [
        (walker, door) for walker in names for door in others
        if passes.get(walker, ()).count(door) != passers.get(door, ()).count(walker)
    ]


class IsRingTest(Case):

    def test_example(self):
        self.gives(True, is_ring, *CROSSED, CROSSED_RING)

    def test_every_turn_of_a_ring(self):
        for n in range(4):
            self.gives(True, is_ring, *CROSSED, CROSSED_RING[n:] + CROSSED_RING[:n])

    def test_rings_that_run_the_wrong_way(self):
        self.gives(False, is_ring, *CROSSED, CROSSED_RING[::-1])

    def test_against_all_short_tuples_of_deeds(self):
        deeds = [("p", 0), ("p", 1), ("q", 0), ("q", 1), ("p", 2), ("p", -1), ("r", 0)]
        waits = model.waits(*CROSSED)
        for length in range(5):
            for value in itertools.product(deeds, repeat=length):
                wanted = length > 0 and len(set(value)) == length and all(
                    pair in waits for pair in zip(value, value[1:] + value[:1])
                )
                self.assertIs(is_ring(*CROSSED, value), wanted)

    def test_deeds_twice(self):
        self.gives(False, is_ring, *CROSSED, CROSSED_RING * 2)
        self.gives(False, is_ring, *CROSSED, CROSSED_RING + CROSSED_RING[:1])

    def test_a_door_that_a_walker_passes_more_than_once(self):
        walkers = (("p", ("x", "x", "y")), ("q", ("y", "x")))
        doors = (("x", ("p", "q", "p")), ("y", ("p", "q")))
        ring = (("p", 1), ("q", 1), ("q", 0), ("p", 2))
        self.gives(True, is_ring, walkers, doors, ring)
        self.gives(False, is_ring, walkers, doors, (("p", 0), ("q", 1), ("q", 0), ("p", 2)))
        self.gives(False, is_ring, walkers, doors, ring[1:])
        self.gives(False, is_ring, walkers, doors, (("p", 1), ("p", 0), ("q", 1), ("q", 0), ("p", 2)))

    def test_no_ring_where_there_is_a_row(self):
        walkers, doors = projections([("p", "x"), ("q", "x"), ("q", "y"), ("p", "y")])
        deeds = [("p", 0), ("p", 1), ("q", 0), ("q", 1)]
        for length in range(5):
            for value in itertools.permutations(deeds, length):
                self.gives(False, is_ring, walkers, doors, value)
        self.gives(False, is_ring, (), (), ())
        self.gives(False, is_ring, (), (), (("p", 0),))

    def test_values_of_other_kinds(self):
        values = [
            None, True, False, 0, 1, -1, 10 ** 3999, "", "ring", "pq", (), ((),), (None,), (True,), (0, 1), ("p", 0),
            ("p", 0, "q", 1, "q", 0, "p", 1), nested("p", 12), nested((), 11), nested(CROSSED_RING, 1), ("ring", CROSSED_RING),
        ]
        for value in values:
            self.gives(False, is_ring, *CROSSED, value)

    def test_items_of_other_kinds(self):
        items = [
            None, True, 0, "p", "p0", (), ("p",), ("p", 0, 0), ("p", 0, "x"), (0, "p"), ("p", "x"), ("p", None),
            ("p", "0"), (None, 0), (("p",), 0), ("p", (0,)), (("p", 0),), ("r", 0), ("x", 0), ("p", 2), ("p", -1), ("p", -2),
            ("p", 10 ** 3999), ("p", -(10 ** 3999)), ("", 0), ("P", 0), (0, 0), (True, 0), nested("p", 10),
        ]
        for item in items:
            for at in range(4):
                changed = CROSSED_RING[:at] + (item,) + CROSSED_RING[at + 1:]
                self.gives(item == CROSSED_RING[at], is_ring, *CROSSED, changed)
                self.gives(False, is_ring, *CROSSED, CROSSED_RING[:at] + (item,) + CROSSED_RING[at:])
            self.gives(False, is_ring, *CROSSED, (item,))

    def test_booleans_in_place_of_numbers(self):
        for chosen in itertools.product((False, True), repeat=4):
            value = tuple((walker, bool(n) if change else n) for (walker, n), change in zip(CROSSED_RING, chosen))
            self.gives(not any(chosen), is_ring, *CROSSED, value)

    def test_by_name(self):
        self.assertIs(is_ring(value=CROSSED_RING, doors=CROSSED[1], walkers=CROSSED[0]), True)


if __name__ == "__main__":
    unittest.main()
