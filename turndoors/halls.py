"""Halls: rooms, and the doors that join them."""

from turndoors.errors import InvalidHall, UnknownDoor, UnknownRoom
from turndoors.forms import has_shape, is_name

ROOMS = 8
DOORS = 12


def validate_hall(value):
    """Return True if the value is a hall, else raise InvalidHall."""
    if not has_shape(value, 3):
        raise InvalidHall("form", 0)
    rooms, doors = value
    if not 1 <= len(rooms) <= ROOMS:
        raise InvalidHall("rooms", 0)
    if len(doors) > DOORS:
        raise InvalidHall("doors", 0)
    _check_rooms(rooms)
    _check_doors(rooms, doors)
    return True


def _check_rooms(rooms):
    for index, room in enumerate(rooms):
        if not is_name(room) or room in rooms[:index]:
            raise InvalidHall("room", index)


def _check_doors(rooms, doors):
    earlier = []
    for index, (name, one, other) in enumerate(doors):
        if not is_name(name) or name in earlier:
            raise InvalidHall("door", index)
        if one == other or one not in rooms or other not in rooms:
            raise InvalidHall("end", index)
        earlier.append(name)


def ends_of(hall, door):
    """Return the pair of the door's ends."""
    for name, one, other in hall[1]:
        if name == door:
            return (one, other)
    raise UnknownDoor(door)


def check_room(hall, room):
    """Raise UnknownRoom if the hall has no such room."""
    if room not in hall[0]:
        raise UnknownRoom(room)


def doors_at(hall, room):
    """Return the names of all doors that have the room as an end."""
    check_room(hall, room)
    return tuple([name for name, one, other in hall[1] if room in (one, other)])


def glue(hall, one, other):
    """Return the hall in which the room other is merged into the room one."""
    rooms, doors = hall
    check_room(hall, one)
    check_room(hall, other)
    glued = []
    for index, (name, *ends) in enumerate(doors):
        first, second = [one if end == other else end for end in ends]
        if first == second:
            raise InvalidHall("end", index)
        glued.append((name, first, second))
    # A room that is merged into itself brings no door's ends together, so only this check finds it.
    if one == other:
        raise InvalidHall("rooms", 0)
    return (tuple([room for room in rooms if room != other]), tuple(glued))
