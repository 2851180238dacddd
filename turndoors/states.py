"""States: which rooms the doors face, and where the walkers stand."""

from turndoors.errors import InvalidState, UnknownWalker
from turndoors.forms import has_shape, is_name

WALKERS = 5


def validate_state(hall, value):
    """Return True if the value is a state of the hall, else raise InvalidState."""
    rooms, doors = hall
    if not has_shape(value, 2) or len(value[0]) != len(doors):
        raise InvalidState("form", 0)
    faces, places = value
    if len(places) > WALKERS:
        raise InvalidState("many", 0)
    check_faces(hall, faces)
    _check_places(rooms, places)
    return True


def check_faces(hall, faces):
    """Raise InvalidState for the first of these strings, one for each door, that is not an end of its door."""
    for index, face in enumerate(faces):
        if face not in hall[1][index][1:]:
            raise InvalidState("face", index)


def _check_places(rooms, places):
    # Every name is greater than the empty string, so the first walker needs no case of its own.
    before = ""
    for index, (walker, room) in enumerate(places):
        if not is_name(walker) or walker <= before:
            raise InvalidState("walker", index)
        if room not in rooms:
            raise InvalidState("room", index)
        before = walker


def counts(hall, state):
    """Return the counts of all rooms: doors that face the room, minus walkers in it."""
    faces = state[0]
    numbers = crowd(hall, state)
    return tuple([faces.count(room) - number for room, number in zip(hall[0], numbers)])


def crowd(hall, state):
    """Return the numbers of walkers in all rooms."""
    taken = [room for walker, room in state[1]]
    return tuple([taken.count(room) for room in hall[0]])


def room_of(state, walker):
    """Return the room in which the walker stands."""
    for name, room in state[1]:
        if name == walker:
            return room
    raise UnknownWalker(walker)


def check_walker(state, walker):
    """Raise UnknownWalker if the state has no such walker."""
    if walker not in [name for name, room in state[1]]:
        raise UnknownWalker(walker)


def glue_state(state, one, other):
    """Return the state in which the room other is replaced by the room one."""
    faces, places = state
    return (
        tuple([one if face == other else face for face in faces]),
        tuple([(walker, one if room == other else room) for walker, room in places]),
    )
