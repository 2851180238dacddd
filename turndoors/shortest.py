"""Shortest rows, each with a table of numbers that shows that no row is shorter."""

from turndoors.connect import check_walkers, find_clash, is_clash
from turndoors.forms import is_whole
from turndoors.moves import end_of, reverse, steps_from
from turndoors.reachable import all_states
from turndoors.ways import spread

FEW = 600


def shortest_row(hall, state, target, *, most=FEW):
    """Return a row with as few deeds as possible and the numbers of all states, or a clash if there is no row."""
    check_walkers(state, target)
    states = all_states(hall, state, most=most)
    clash = find_clash(hall, state, target)
    if clash is not None:
        return clash
    rows = spread(target, lambda here: steps_from(hall, here))
    return ("row", reverse(rows[state]), tuple([(there, len(rows[there])) for there in states]))


def is_shortest(hall, state, target, value, *, most=FEW):
    """Tell whether the value is a result of shortest_row."""
    check_walkers(state, target)
    states = all_states(hall, state, most=most)
    if target not in states:
        return is_clash(hall, state, target, value)
    if not isinstance(value, tuple) or len(value) != 3 or value[0] != "row":
        return False
    _, row, table = value
    if end_of(hall, state, row) != target or not _is_table(states, table):
        return False
    numbers = dict(table)
    return numbers[target] == 0 and numbers[state] == len(row) and _is_even(hall, numbers)


def _is_table(states, value):
    """Tell whether the value is a tuple of pairs of just these states in their order and of whole numbers."""
    if not isinstance(value, tuple) or len(value) != len(states):
        return False
    return all([_is_entry(state, entry) for state, entry in zip(states, value)])


def _is_entry(state, value):
    return isinstance(value, tuple) and len(value) == 2 and value[0] == state and is_whole(value[1])


def _is_even(hall, numbers):
    """Tell whether no deed leads from a state to one whose number differs by more than 1."""
    for state, number in numbers.items():
        if not all([abs(number - numbers[there]) <= 1 for deed, there in steps_from(hall, state)]):
            return False
    return True
