"""Rows that bring two walkers together or let them exchange their rooms."""

from turndoors.bands import chains_from
from turndoors.moves import reverse, run
from turndoors.states import room_of
from turndoors.ways import ways_from


def meeting_row(hall, state, one, other):
    """Return a row that leads two walkers to one room, or None if their reaches have no common room."""
    ways = ways_from(hall, state[0], room_of(state, one))
    others = ways_from(hall, state[0], room_of(state, other))
    lengths = [(len(ways[room]) + len(others[room]), room) for room in ways if room in others]
    if not lengths:
        return None
    # Where the two paths are shortest together they share no room before the last, so they share no door either,
    # and the first walker leaves the second one's path as it is.
    _, room = min(lengths)
    return tuple([(one, door) for door in ways[room]] + [(other, door) for door in others[room]])


def exchange_row(hall, state, one, other):
    """Return a row after which two walkers of one band have exchanged their rooms and all else is unchanged."""
    chain = chains_from(hall, state, one)[other]
    # The one walks along the chain up to the other's room, which moves everyone else on it one step towards the one's
    # room; then the other walks back along it.
    pairs = [(one, walker) for walker in chain] + [(other, walker) for walker in reversed(chain[:-1])]
    row = ()
    for first, second in pairs:
        part = _swap_row(hall, state, first, second)
        state = run(hall, state, part)
        row = row + part
    return row


def _swap_row(hall, state, one, other):
    """Return a row that exchanges two walkers whose reaches have a common room."""
    there = meeting_row(hall, state, one, other)
    # Where they stand in one room, each may go back along the way by which the other one came.
    swapped = {one: other, other: one}
    back = [(swapped[walker], door) for walker, door in reverse(there)]
    return there + tuple(back)
