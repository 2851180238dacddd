"""All states that can be reached: their number, the states themselves, and the crowds that go with faces."""

from math import factorial

from turndoors.bands import bands, still_doors
from turndoors.errors import InvalidState, TooMany
from turndoors.forms import is_strings
from turndoors.states import check_faces, counts

STATES = 5000


def count_states(hall, state):
    """Return the number of states that can be reached."""
    return _count_states(hall, state, _choices(hall, state))


def all_states(hall, state, *, most=STATES):
    """Return the list of all states that can be reached, ascending, else raise TooMany."""
    choices = _choices(hall, state)
    number = _count_states(hall, state, choices)
    if number > most:
        raise TooMany(number)
    found = []
    for faces, crowded in choices:
        found.extend([(faces, places) for places in _all_places(hall, state, crowded)])
    return sorted(found)


def crowd_for(hall, state, faces):
    """Return the numbers of walkers that go with the faces, or why no state with these faces can be reached."""
    if not is_strings(faces) or len(faces) != len(hall[1]):
        raise InvalidState("form", 0)
    check_faces(hall, faces)
    still = still_doors(hall, state)
    for (door, one, other), face, wanted in zip(hall[1], state[0], faces):
        if door in still and face != wanted:
            return ("still", door)
    numbers = _crowd_of(hall, counts(hall, state), faces)
    for room, number in zip(hall[0], numbers):
        if number < 0:
            return ("below", room, number)
    return ("crowd", numbers)


def _crowd_of(hall, held, faces):
    """Return for each room the number of doors that face it, minus its count among those that are held."""
    return tuple([faces.count(room) - count for room, count in zip(hall[0], held)])


def _choices(hall, state):
    """Return the pairs (faces, crowd) of the states that can be reached, each pair once."""
    still = still_doors(hall, state)
    found = [()]
    for (door, one, other), face in zip(hall[1], state[0]):
        ends = (face,) if door in still else (one, other)
        found = [(*faces, end) for faces in found for end in ends]
    held = counts(hall, state)
    pairs = [(faces, _crowd_of(hall, held, faces)) for faces in found]
    return [(faces, numbers) for faces, numbers in pairs if min(numbers) >= 0]


def _count_states(hall, state, choices):
    # The faces say how many of a band stand in each room of its ground, so the walkers of the band can be placed in as
    # many ways as there are orders of them, those being one that differ only within a room.
    orders = 1
    for walkers, ground in bands(hall, state):
        orders = orders * factorial(len(walkers))
    total = 0
    for faces, numbers in choices:
        ways = orders
        for number in numbers:
            ways = ways // factorial(number)
        total = total + ways
    return total


def _all_places(hall, state, numbers):
    """Return all places of the walkers on their grounds with these numbers of walkers in the rooms."""
    ground_of = {walker: ground for walkers, ground in bands(hall, state) for walker in walkers}
    limits = dict(zip(hall[0], numbers))
    found = [()]
    for walker, _ in state[1]:
        longer = []
        for places in found:
            taken = [room for name, room in places]
            free = [room for room in ground_of[walker] if taken.count(room) < limits[room]]
            longer.extend([(*places, (walker, room)) for room in free])
        found = longer
    return found
