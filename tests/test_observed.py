"""Stage 12: observed passes."""

import itertools
import time
import unittest

from tests import answers, model
from tests.samples import H, Case
from turndoors.errors import UnknownDoor
from turndoors.moves import reverse, run
from turndoors.observed import beginnings

LONE = (("a",), ())
BRIDGE = (("a", "b"), (("x", "a", "b"),))
TWINS = (("c", "b", "a"), (("z", "b", "a"), ("x", "a", "b"), ("y", "a", "b")))
FIVE = ("p", "q", "r", "s", "t")

NO_DOORS = ("w", "a", "p", "", "X", "x ", "xy", "x\n")


class BeginningsTest(Case):

    def check(self, hall, row):
        """Check the answer against all rooms and faces, and return its kind."""
        result = self.answer(beginnings, hall, row)
        other = tuple(row) if isinstance(row, list) else list(row)
        self.gives(result, beginnings, hall, other)
        if result[0] == "may":
            self.assertEqual(result, ("may", answers.beginnings(hall, row)))
            self.assertNotEqual(result[1], ())
        else:
            kind, index = result
            self.assertEqual(kind, "clash")
            self.assertIs(type(index), int)
            self.assertEqual(answers.beginnings(hall, row[:index + 1]), ())
            self.assertNotEqual(answers.beginnings(hall, row[:index]), ())
        return result[0]

    def test_examples(self):
        self.gives(("may", (((("x", "a"), ("y", "b")), (("p", "a"),)),)), beginnings, H, [("p", "x"), ("p", "y")])
        self.gives(("clash", 2), beginnings, H, [("p", "x"), ("p", "z"), ("p", "x")])

    def test_empty_row(self):
        for hall in (H, LONE, TWINS, (("a", "b"), ())):
            self.gives(("may", (((), ()),)), beginnings, hall, ())
            self.gives(("may", (((), ()),)), beginnings, hall, [])

    def test_one_deed(self):
        wanted = ("may", (((("x", "a"),), (("p", "a"),)), ((("x", "b"),), (("p", "b"),))))
        self.gives(wanted, beginnings, H, [("p", "x")])
        self.gives(wanted, beginnings, H, (("p", "x"),))
        wanted = ("may", (((("z", "a"),), (("p", "a"),)), ((("z", "b"),), (("p", "b"),))))
        self.gives(wanted, beginnings, TWINS, [("p", "z")])

    def test_the_same_door_again(self):
        wanted = ("may", (((("x", "a"),), (("p", "a"),)), ((("x", "b"),), (("p", "b"),))))
        for times in range(1, 8):
            self.gives(wanted, beginnings, BRIDGE, [("p", "x")] * times)
        wanted = ("may", (
            ((("x", "a"),), (("p", "a"), ("q", "b"))), ((("x", "b"),), (("p", "b"), ("q", "a"))),
        ))
        self.gives(wanted, beginnings, BRIDGE, [("p", "x"), ("q", "x")])
        self.gives(wanted, beginnings, BRIDGE, [("p", "x"), ("q", "x"), ("q", "x")])

    def test_each_index_of_a_clash(self):
        self.gives(("clash", 2), beginnings, BRIDGE, [("p", "x"), ("q", "x"), ("p", "x")])
        dice = model.Dice(111)
        seen = set()
        for _ in range(400):
            row = [(walker, {"a": "x", "b": "y", "c": "z"}[door]) for walker, door in dice.row(3, 3, 7)]
            self.check(H, row)
            seen.add(beginnings(H, row)[1] if beginnings(H, row)[0] == "clash" else None)
        self.assertEqual(seen, {None, 2, 3, 4, 5, 6})
        hall = (("a", "b", "c", "d"), (("x", "a", "b"), ("y", "c", "d")))
        self.gives(("clash", 1), beginnings, hall, [("p", "x"), ("p", "y")])
        self.gives(("clash", 1), beginnings, hall, [("p", "x"), ("p", "y"), ("p", "x"), ("p", "y")])

    def test_walkers_and_doors_with_the_same_names(self):
        hall = (("a", "b", "c"), (("b", "a", "b"), ("a", "b", "c"), ("c", "c", "a")))
        for row in itertools.product([("a", "a"), ("a", "b"), ("b", "a"), ("b", "b"), ("c", "c")], repeat=3):
            self.check(hall, list(row))
        wanted = ("may", (
            ((("a", "b"),), (("a", "b"),)), ((("a", "c"),), (("a", "c"),)),
        ))
        self.gives(wanted, beginnings, hall, [("a", "a")])

    def test_walkers_in_any_order(self):
        result = beginnings(TWINS, [("r", "x"), ("q", "z"), ("p", "y")])
        self.assertEqual(result, ("may", answers.beginnings(TWINS, [("r", "x"), ("q", "z"), ("p", "y")])))
        self.assertEqual(len(result[1]), 8)
        self.assertEqual(list(result[1]), sorted(result[1]))

    def test_against_all_rooms_and_faces(self):
        for hall in model.small_halls():
            names = [door[0] for door in hall[1]]
            deeds = list(itertools.product("pq", names))
            for length in range(4):
                rows = list(itertools.product(deeds, repeat=length))
                for row in rows[::1 + len(rows) // 12]:
                    self.check(hall, row)

    def test_rows_that_were_done_in_middle_halls(self):
        dice = model.Dice(112)
        for _ in range(60):
            hall = dice.hall(4, 5)
            state = dice.state(hall, 3)
            row = dice.walk(hall, state, 12)
            self.assertEqual(self.check(hall, row), "may")

    def test_any_rows_in_middle_halls(self):
        dice = model.Dice(113)
        kinds = set()
        for n in range(200):
            hall = dice.hall(4, 4)
            row = [(walker, door + "d") for walker, door in dice.row(1 + n % 3, 4, 2 + n % 4)]
            kinds.add(self.check(hall, row))
        self.assertEqual(kinds, {"may", "clash"})

    def test_rows_of_sixty_deeds_in_large_halls(self):
        dice = model.Dice(114)
        for _ in range(150):
            hall = dice.hall(8, 12)
            state = dice.state(hall, 5)
            row = dice.walk(hall, state, 60)
            kind, found = self.answer(beginnings, hall, row)
            self.assertEqual(kind, "may")
            self.gives((kind, found), beginnings, hall, list(row))
            seen_doors = {door for _, door in row}
            seen_walkers = {walker for walker, _ in row}
            own = (
                tuple(sorted((door[0], face) for door, face in zip(hall[1], state[0]) if door[0] in seen_doors)),
                tuple((walker, room) for walker, room in state[1] if walker in seen_walkers),
            )
            self.assertIn(own, found)
            self.assertEqual(list(found), sorted(set(found)))
            for faces, places in found:
                # Doors and walkers that the row does not have may face and stand anywhere.
                there = (tuple(dict(faces).get(door[0], door[2]) for door in hall[1]), places)
                end = run(hall, there, row)
                self.assertEqual(run(hall, end, reverse(row)), there)

    def test_the_most_beginnings(self):
        # Five walkers, each at two doors of its own that lie between the same two rooms.
        hall = (tuple("ab"), tuple((name, "a", "b") for name in "cdefghijkl"))
        row = [(walker, door) for walker, doors in zip(FIVE, ("cddc", "effe", "ghhg", "ijji", "kllk")) for door in doors * 3]
        self.assertEqual(len(row), 60)
        kind, found = self.answer(beginnings, hall, row)
        self.assertEqual((kind, len(found)), ("may", 32))
        for rooms in itertools.product("ab", repeat=5):
            faces = "".join(room + {"a": "b", "b": "a"}[room] for room in rooms)
            self.assertIn((tuple(zip("cdefghijkl", faces)), tuple(zip(FIVE, rooms))), found)

    def test_a_clash_at_the_end(self):
        row = [("p", "x"), ("p", "y"), ("p", "z"), ("p", "z"), ("p", "y"), ("p", "x")] * 10
        self.gives(("may", ((tuple(zip("xyz", "abc")), (("p", "a"),)),)), beginnings, H, row)
        self.gives(("clash", 59), beginnings, H, row[:59] + [("p", "z")])
        self.gives(("may", ((tuple(zip("xyz", "abc")), (("p", "a"), ("q", "b"))),)), beginnings, H, row[:59] + [("q", "y")])

    def test_unknown_door(self):
        for name in NO_DOORS:
            for row in (
                [("p", name)], [("p", "x"), ("p", name)], [("p", name), ("p", "x")], [("p", name), ("p", "ww")],
                # Also behind a clash.
                [("p", "x"), ("p", "z"), ("p", "x"), ("p", name)], [("p", "x"), ("p", "z"), ("p", "x"), ("p", name), ("q", "ww")],
            ):
                self.raises(UnknownDoor, {"name": name}, beginnings, H, row)
                self.raises(UnknownDoor, {"name": name}, beginnings, H, tuple(row))
        self.raises(UnknownDoor, {"name": "x"}, beginnings, LONE, [("p", "x")])
        self.raises(UnknownDoor, {"name": "w"}, beginnings, H, [("p", "x")] * 59 + [("p", "w")])

    def test_an_answer_comes_quickly(self):
        dice = model.Dice(115)
        asked = []
        for _ in range(100):
            hall = dice.hall(8, 12)
            asked.append((hall, dice.walk(hall, dice.state(hall, 5), 60)))
        start = time.perf_counter()
        for hall, row in asked:
            beginnings(hall, row)
        # It takes some tenths of a second.
        self.assertLess(time.perf_counter() - start, 20)

    def test_by_name(self):
        self.assertEqual(beginnings(seen=[], hall=H), ("may", (((), ()),)))


if __name__ == "__main__":
    unittest.main()
