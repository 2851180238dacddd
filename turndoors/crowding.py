"""Crowding: how many walkers can gather in one room."""

from turndoors.forms import is_choice, is_whole
from turndoors.halls import check_room
from turndoors.moves import end_of, run
from turndoors.states import crowd
from turndoors.ways import ways_from, ways_in


def most_in(hall, state, room):
    """Return the greatest number of walkers in the room, a row that leads there, and rooms that show that it is."""
    check_room(hall, room)
    row, there = _gather(hall, state, room)
    # In the end no walker outside of the room has a way to it. So the rooms from which ways lead to it hold no other
    # walkers, and no door leads into these rooms. A pass does not change the sum of the walkers in them and the doors
    # that lead into them, so this sum was the number from the start.
    rooms = tuple([start for start in hall[0] if room in ways_from(hall, there[0], start)])
    return (_number_in(hall, there, room), row, rooms)


def is_most(hall, state, room, value):
    """Tell whether the value is a result of most_in."""
    check_room(hall, room)
    if not isinstance(value, tuple) or len(value) != 3:
        return False
    number, row, rooms = value
    there = end_of(hall, state, row)
    if not is_whole(number) or there is None or number != _number_in(hall, there, room):
        return False
    if not is_choice(rooms, hall[0]) or room not in rooms:
        return False
    inside = sum([_number_in(hall, state, name) for name in rooms])
    return number == inside + len(ways_in(hall, state[0], rooms))


def _number_in(hall, state, room):
    return crowd(hall, state)[hall[0].index(room)]


def _gather(hall, state, room):
    """Return a row after which no walker outside of the room has a way to it, and the state to which it leads."""
    row = ()
    part = _next_part(hall, state, room)
    while part:
        row = row + part
        state = run(hall, state, part)
        part = _next_part(hall, state, room)
    return (row, state)


def _next_part(hall, state, room):
    """Return a row that leads one more walker to the room, or the empty row if none has a way."""
    for walker, start in state[1]:
        way = ways_from(hall, state[0], start).get(room, ())
        if way:
            return tuple([(walker, door) for door in way])
    return ()
