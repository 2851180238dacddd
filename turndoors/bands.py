"""Reaches of walkers, bands of walkers, and enclosures that no walker leaves."""

from turndoors.forms import is_choice
from turndoors.halls import check_room
from turndoors.states import room_of
from turndoors.ways import spread, ways_from, ways_of


def reach(hall, state, walker):
    """Return the rooms to which a path leads from the walker's room."""
    ways = ways_from(hall, state[0], room_of(state, walker))
    return tuple([room for room in hall[0] if room in ways])


def path(hall, state, walker, room):
    """Return the doors of a shortest path from the walker's room to this room, or None if there is no path."""
    start = room_of(state, walker)
    check_room(hall, room)
    return ways_from(hall, state[0], start).get(room)


def bands(hall, state):
    """Return all bands, each with its walkers and its ground."""
    reaches = _reaches(hall, state)
    found = []
    # Each band is found by its least walker, so the bands are found in ascending order.
    for walker in reaches:
        if not any([walker in members for members, ground in found]):
            walkers = tuple(sorted(_chains(reaches, walker)))
            joined = [room for member in walkers for room in reaches[member]]
            found.append((walkers, tuple([room for room in hall[0] if room in joined])))
    return tuple(found)


def grounds(hall, state):
    """Return the grounds of all bands, which form an enclosure."""
    return tuple([ground for walkers, ground in bands(hall, state)])


def chains_from(hall, state, walker):
    """Return a dict of the walkers of the walker's band, each with a chain of walkers that connects it.

    The chain begins behind this walker and ends with the other one; neighbours have reaches with a common room.
    """
    return _chains(_reaches(hall, state), walker)


def _reaches(hall, state):
    return {walker: reach(hall, state, walker) for walker, room in state[1]}


def _chains(reaches, walker):
    return spread(walker, lambda here: _neighbours(reaches, here))


def _neighbours(reaches, walker):
    """Return the walkers whose reach has a common room with the walker's, each as a pair (step, next walker)."""
    found = []
    for other, rooms in reaches.items():
        if any([room in reaches[walker] for room in rooms]):
            found.append((other, other))
    return found


def still_doors(hall, state):
    """Return the doors whose ends are not both in one ground."""
    enclosure = grounds(hall, state)
    return tuple([door for door, one, other in hall[1] if not in_one_lot(enclosure, one, other)])


def in_one_lot(lots, one, other):
    """Tell whether one of the lots contains both rooms."""
    return any([one in lot and other in lot for lot in lots])


def is_enclosure(hall, state, value):
    """Tell whether the value is an enclosure of the state."""
    if not _are_lots(hall, value):
        return False
    enclosed = [room for lot in value for room in lot]
    if not all([room in enclosed for walker, room in state[1]]):
        return False
    return all([_is_closed(hall, state, lot) for lot in value])


def _are_lots(hall, value):
    """Tell whether the value is a tuple of lots of which no two have a common room."""
    if not isinstance(value, tuple) or not all([isinstance(lot, tuple) and len(lot) > 0 for lot in value]):
        return False
    return is_choice(tuple([room for lot in value for room in lot]), hall[0])


def _is_closed(hall, state, lot):
    """Tell whether each door with exactly one end in the lot faces its other end."""
    return not any([start in lot and end not in lot for door, start, end in ways_of(hall, state[0])])
