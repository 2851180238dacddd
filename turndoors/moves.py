"""Passes: deeds and rows of deeds, and changes of a state by hand."""

from turndoors.errors import Blocked, Full, Mismatch, UnknownDoor, UnknownWalker
from turndoors.forms import is_groups
from turndoors.halls import check_room, ends_of
from turndoors.states import WALKERS, check_walker, room_of
from turndoors.ways import ways_out


def can_pass(hall, state, walker, door):
    """Tell whether the walker stands in the room that the door faces."""
    room = room_of(state, walker)
    return face_of(hall, state, door) == room


def pass_door(hall, state, walker, door):
    """Return the state after the deed, else raise Blocked."""
    if not can_pass(hall, state, walker, door):
        raise Blocked(0)
    faces, places = turn_door(hall, state, door)
    room = face_of(hall, (faces, places), door)
    return (faces, tuple([(name, room if name == walker else place) for name, place in places]))


def run(hall, state, row):
    """Return the state to which the row leads, else raise Blocked."""
    for index, (walker, door) in enumerate(row):
        if not _can_be_done(hall, state, walker, door):
            raise Blocked(index)
        state = pass_door(hall, state, walker, door)
    return state


def end_of(hall, state, value):
    """Return the state to which the value leads, or None if it is not a tuple of deeds that can be done."""
    if not is_groups(value, 2):
        return None
    try:
        return run(hall, state, value)
    except Blocked:
        return None


def steps_from(hall, state):
    """Return the pairs (deed, state after it) of all deeds that can be done."""
    found = []
    for walker, room in state[1]:
        for door, _ in ways_out(hall, state[0], room):
            found.append(((walker, door), pass_door(hall, state, walker, door)))
    return found


def _can_be_done(hall, state, walker, door):
    try:
        return can_pass(hall, state, walker, door)
    except (UnknownWalker, UnknownDoor):
        return False


def reverse(row):
    """Return the deeds in reverse order."""
    return tuple(reversed(row))


def turn_door(hall, state, door):
    """Return the state in which the door faces its other end."""
    one, other = ends_of(hall, door)
    turned = other if face_of(hall, state, door) == one else one
    faces, places = state
    return (tuple([turned if entry[0] == door else face for entry, face in zip(hall[1], faces)]), places)


def put_walker(hall, state, walker, room):
    """Return the state with one more walker, in this room."""
    faces, places = state
    check_room(hall, room)
    if walker in [name for name, place in places]:
        raise Mismatch(walker)
    if len(places) >= WALKERS:
        raise Full(WALKERS)
    return (faces, tuple(sorted([*places, (walker, room)])))


def remove_walker(state, walker):
    """Return the state without this walker."""
    check_walker(state, walker)
    faces, places = state
    return (faces, tuple([(name, room) for name, room in places if name != walker]))


def face_of(hall, state, door):
    """Return the room that the door faces."""
    for (name, one, other), face in zip(hall[1], state[0]):
        if name == door:
            return face
    raise UnknownDoor(door)
