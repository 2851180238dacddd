"""What the document promises over the whole program, points 12 to 18."""

import importlib
import inspect
import os
import pathlib
import random
import subprocess
import sys
import unittest

from tests.samples import H, NO_STRINGS, NO_TUPLES, ODD_VALUES, S, is_plain, nested
from turndoors.errors import HallError, UnknownDoor, UnknownRoom, UnknownWalker
from turndoors.keeper import Keeper

TOP = pathlib.Path(__file__).resolve().parent.parent

TWO = (S[0], (("p", "a"), ("q", "c")))
ROUND = (("b", "c", "a"), (("p", "a"),))
TURNED = (("a", "b", "a"), (("p", "a"),))
ROW = (("p", "x"), ("p", "y"))
WALKERS, DOORS = (("p", ("x", "y")), ("q", ("y", "x"))), (("x", ("q", "p")), ("y", ("p", "q")))
TABLE = tuple(zip(
    (S, (("b", "b", "c"), (("p", "b"),)), ROUND, (("b", "c", "c"), (("p", "c"),))), (0, 1, 3, 2),
))

# Each function with arguments that are as the document asks for, so that no error is raised.
CALLS = (
    ("halls.validate_hall", {"value": H}),
    ("halls.ends_of", {"hall": H, "door": "y"}),
    ("halls.doors_at", {"hall": H, "room": "a"}),
    ("halls.glue", {"hall": (("a", "b", "c"), (("x", "a", "b"),)), "one": "c", "other": "a"}),
    ("states.validate_state", {"hall": H, "value": S}),
    ("states.counts", {"hall": H, "state": S}),
    ("states.crowd", {"hall": H, "state": S}),
    ("states.room_of", {"state": S, "walker": "p"}),
    ("states.glue_state", {"state": S, "one": "c", "other": "a"}),
    ("texts.format_hall", {"hall": H}),
    ("texts.parse_hall", {"text": "rooms a b\ndoor x a b"}),
    ("texts.format_state", {"state": S}),
    ("texts.parse_state", {"hall": H, "text": "faces a b c\nwalker p a"}),
    ("moves.can_pass", {"hall": H, "state": S, "walker": "p", "door": "x"}),
    ("moves.pass_door", {"hall": H, "state": S, "walker": "p", "door": "x"}),
    ("moves.run", {"hall": H, "state": S, "row": list(ROW)}),
    ("moves.reverse", {"row": list(ROW)}),
    ("moves.turn_door", {"hall": H, "state": S, "door": "x"}),
    ("moves.put_walker", {"hall": H, "state": S, "walker": "o", "room": "c"}),
    ("moves.remove_walker", {"state": S, "walker": "p"}),
    ("histories.same_history", {"one": list(ROW), "other": ROW[::-1]}),
    ("histories.projections", {"row": list(ROW)}),
    ("histories.least_row", {"row": [("q", "z"), *ROW]}),
    ("histories.rounds", {"row": [("q", "z"), *ROW]}),
    ("histories.merge", {"walkers": WALKERS, "doors": DOORS}),
    ("histories.is_ring", {"walkers": WALKERS, "doors": DOORS, "value": (("p", 0), ("q", 1), ("q", 0), ("p", 1))}),
    ("bands.reach", {"hall": H, "state": S, "walker": "p"}),
    ("bands.path", {"hall": H, "state": S, "walker": "p", "room": "c"}),
    ("bands.bands", {"hall": H, "state": TWO}),
    ("bands.still_doors", {"hall": H, "state": S}),
    ("bands.is_enclosure", {"hall": H, "state": S, "value": (("c", "a", "b"),)}),
    ("connect.connect", {"hall": H, "state": S, "target": ROUND}),
    ("connect.is_clash", {"hall": H, "state": S, "target": TURNED, "value": ("count", "a", 0, 1)}),
    ("meetings.bring", {"hall": H, "state": TWO, "walker": "q", "room": "b"}),
    ("meetings.swap", {"hall": H, "state": TWO, "one": "q", "other": "p"}),
    ("meetings.meet", {"hall": H, "state": TWO, "one": "q", "other": "p"}),
    ("meetings.turn_ring", {"hall": H, "state": S, "doors": ["x", "y", "z"]}),
    ("reachable.count_states", {"hall": H, "state": S}),
    ("reachable.all_states", {"hall": H, "state": S, "most": 4}),
    ("reachable.crowd_for", {"hall": H, "state": S, "faces": ("b", "b", "c")}),
    ("crowding.most_in", {"hall": H, "state": TWO, "room": "b"}),
    ("crowding.is_most", {"hall": H, "state": S, "room": "b", "value": (1, (("p", "x"),), ("b",))}),
    ("handturns.fewest_turns", {"hall": H, "state": S, "wanted": (1, 0, 1)}),
    ("handturns.is_fewest", {"hall": H, "state": S, "wanted": (1, 0, 1), "value": ("turns", ("y", "z"), (2, 0, 1))}),
    ("shortest.shortest_row", {"hall": H, "state": S, "target": ROUND, "most": 4}),
    ("shortest.is_shortest", {"hall": H, "state": S, "target": S, "value": ("row", (), TABLE), "most": 4}),
    ("observed.beginnings", {"hall": H, "seen": list(ROW)}),
)

# The functions that check any value, with the name of that argument.
ANY_VALUES = {
    "halls.validate_hall": "value", "states.validate_state": "value", "histories.is_ring": "value",
    "bands.is_enclosure": "value", "connect.is_clash": "value", "reachable.crowd_for": "faces", "crowding.is_most": "value",
    "handturns.is_fewest": "value", "shortest.is_shortest": "value",
}

RETURN_LISTS = ("reachable.all_states",)


def function(path):
    module, _, name = path.rpartition(".")
    return getattr(importlib.import_module("turndoors." + module), name)


def by_position(path, named):
    """Call the function with its arguments by position, as far as that is allowed."""
    kinds = inspect.signature(function(path)).parameters
    last = {name: value for name, value in named.items() if kinds[name].kind is inspect.Parameter.KEYWORD_ONLY}
    return function(path)(*[value for name, value in named.items() if name not in last], **last)


def all_results():
    """Return the text of all results of the calls, for another process to print."""
    return "\n".join(repr(function(path)(**named)) for path, named in CALLS)


class WholeTest(unittest.TestCase):

    def test_every_function_is_called(self):
        from tests.test_interface import FUNCTIONS
        names = {f"turndoors.{path}" for path, _ in CALLS}
        wanted = {f"{module}.{sign.partition('(')[0]}" for module, signs in FUNCTIONS.items() for sign in signs}
        self.assertEqual(names, wanted)

    def test_by_position_and_by_name_in_any_order(self):
        dice = random.Random(141)
        for path, named in CALLS:
            self.assertEqual(list(inspect.signature(function(path)).parameters), list(named))
            wanted = repr(by_position(path, named))
            for _ in range(4):
                names = dice.sample(list(named), len(named))
                self.assertEqual(repr(function(path)(**{name: named[name] for name in names})), wanted)

    def test_a_default_may_be_omitted(self):
        for path, named in CALLS:
            if "most" in named:
                less = {name: value for name, value in named.items() if name != "most"}
                self.assertEqual(function(path)(**less), function(path)(**named))

    def test_no_argument_is_changed(self):
        for path, named in CALLS:
            before = repr(named)
            function(path)(**named)
            self.assertEqual(repr(named), before)

    def test_results_are_new_lists_or_cannot_be_changed(self):
        for path, named in CALLS:
            result = function(path)(**named)
            if path in RETURN_LISTS:
                self.assertIs(type(result), list)
                self.assertTrue(all(is_plain(item) for item in result))
                before = repr(result)
                result.clear()
                self.assertEqual(repr(function(path)(**named)), before)
            else:
                self.assertTrue(is_plain(result), path)

    def test_an_argument_that_is_changed_later(self):
        for path, named in CALLS:
            for name, value in named.items():
                if isinstance(value, list):
                    given = list(value)
                    result = function(path)(**{**named, name: given})
                    before = repr(result)
                    given.clear()
                    self.assertEqual(repr(result), before)

    def test_lists_and_tuples_give_the_same(self):
        for path, named in CALLS:
            for name, value in named.items():
                if isinstance(value, list):
                    result = function(path)(**{**named, name: tuple(value)})
                    self.assertEqual(repr(result), repr(function(path)(**named)))

    def test_the_same_whatever_is_called_in_between(self):
        dice = random.Random(142)
        first = {path: repr(function(path)(**named)) for path, named in CALLS}
        for _ in range(5):
            for path, named in dice.sample(CALLS, len(CALLS)):
                self.assertEqual(repr(function(path)(**named)), first[path])

    def test_the_same_in_each_process(self):
        for seed in ("0", "1", "4242"):
            environment = {**os.environ, "PYTHONHASHSEED": seed, "PYTHONPATH": str(TOP)}
            printed = subprocess.run(
                [sys.executable, "-c", "from tests import test_whole; print(test_whole.all_results())"],
                cwd=TOP, env=environment, capture_output=True, text=True, check=True,
            )
            self.assertEqual(printed.stdout, all_results() + "\n")

    def test_any_value(self):
        values = [*NO_TUPLES, *NO_STRINGS, *ODD_VALUES, *[nested(value, 11) for value in (1, "a", None)]]
        values += [(one, other) for one in ODD_VALUES for other in ODD_VALUES]
        values += [(word, one, "x") for word in ("row", "turns", "never", "count", "door", "place") for one in ODD_VALUES]
        named_calls = dict(CALLS)
        for path, name in ANY_VALUES.items():
            for value in values:
                before = repr(value)
                try:
                    result = function(path)(**{**named_calls[path], name: value})
                except HallError as error:
                    self.assertIn(type(error).__name__, ("InvalidHall", "InvalidState"))
                else:
                    self.assertTrue(isinstance(result, bool) or path == "reachable.crowd_for")
                self.assertEqual(repr(value), before)

    def test_a_boolean_is_no_whole_number(self):
        # Of these calls all are true, and none is with booleans in the place of 0 and 1.
        named_calls = dict(CALLS)
        for path, name in ANY_VALUES.items():
            named = named_calls[path]
            if path != "reachable.crowd_for":
                self.assertIs(function(path)(**named), True)
            changed = with_booleans(named[name])
            if changed != named[name] or repr(changed) != repr(named[name]):
                self.assertIs(function(path)(**{**named, name: changed}), False)

    def test_errors_are_of_the_package(self):
        for error in (UnknownDoor, UnknownRoom, UnknownWalker):
            self.assertTrue(issubclass(error, KeyError))
        with self.assertRaises(UnknownWalker):
            Keeper(H, S).remove("q")


def with_booleans(value):
    """Return the value with True and False in place of 1 and 0."""
    if type(value) is tuple:
        return tuple(with_booleans(item) for item in value)
    return bool(value) if type(value) is int and value in (0, 1) else value


if __name__ == "__main__":
    unittest.main()
