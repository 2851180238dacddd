"""Meetings: rows that bring walkers to a room, to each other's rooms or together, and rows that turn rings of doors."""

from turndoors.bands import chains_from, grounds, path
from turndoors.connect import connect
from turndoors.errors import NotRing
from turndoors.exchanges import exchange_row, meeting_row
from turndoors.halls import check_room
from turndoors.moves import face_of, run, turn_door
from turndoors.states import check_walker


def bring(hall, state, walker, room):
    """Return a row that leads the walker to the room, or an enclosure that keeps the walker from it."""
    check_walker(state, walker)
    check_room(hall, room)
    # Whoever of the walker's band can come to the room goes there, and then the two exchange their rooms.
    for guide in chains_from(hall, state, walker):
        way = path(hall, state, guide, room)
        if way is not None:
            row = tuple([(guide, door) for door in way])
            return ("row", row + exchange_row(hall, run(hall, state, row), walker, guide))
    return _apart(hall, state)


def swap(hall, state, one, other):
    """Return a row after which the two have exchanged their rooms, or an enclosure that keeps them apart."""
    check_walker(state, one)
    check_walker(state, other)
    if other not in chains_from(hall, state, one):
        return _apart(hall, state)
    return ("row", exchange_row(hall, state, one, other))


def meet(hall, state, one, other):
    """Return a row after which the two stand in one room, or an enclosure that keeps them apart."""
    check_walker(state, one)
    check_walker(state, other)
    chains = chains_from(hall, state, one)
    if other not in chains:
        return _apart(hall, state)
    if one == other:
        return ("row", ())
    # From the room of the walker before the other one in the chain, the one's reach has a room of the other's.
    chain = [one, *chains[other]]
    row = exchange_row(hall, state, one, chain[-2])
    return ("row", row + meeting_row(hall, run(hall, state, row), one, other))


def turn_ring(hall, state, doors):
    """Return a row after which just these doors have turned, or an enclosure that no walker leaves to turn them."""
    turned = state
    for door in doors:
        turned = turn_door(hall, turned, door)
    if not _is_ring_of_doors(hall, state, turned, doors):
        raise NotRing()
    result = connect(hall, state, turned)
    return result if result[0] == "row" else _apart(hall, state)


def _apart(hall, state):
    return ("apart", grounds(hall, state))


def _is_ring_of_doors(hall, state, turned, doors):
    """Tell whether each door faces a room of its own and, once turned, the room of the next door."""
    rooms = [face_of(hall, state, door) for door in doors]
    nexts = [face_of(hall, turned, door) for door in doors]
    return len(rooms) >= 2 and len(set(rooms)) == len(rooms) and nexts == rooms[1:] + rooms[:1]
