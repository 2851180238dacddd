"""A slow model, written from the document's definitions alone, with which the program is compared."""

import itertools
import random

LETTERS = "abcdefghijklmnopqrstuvwxyz"


def step(hall, state, deed):
    """Return the state after the deed, or None if it cannot be done."""
    doors = {door[0]: at for at, door in enumerate(hall[1])}
    faces, places = list(state[0]), dict(state[1])
    walker, door = deed
    if walker not in places or door not in doors:
        return None
    at = doors[door]
    if faces[at] != places[walker]:
        return None
    faces[at] = places[walker] = _other(hall[1][at], faces[at])
    return (tuple(faces), tuple(sorted(places.items())))


def _other(door, end):
    return {door[1]: door[2], door[2]: door[1]}[end]


def deeds(hall, state):
    """Return all deeds that can be done in the state."""
    found = []
    for walker, room in state[1]:
        for door, face in zip(hall[1], state[0]):
            if face == room:
                found.append((walker, door[0]))
    return found


def lead(hall, state, row):
    """Return the state to which the row leads, or the index of the first deed that cannot be done."""
    for index, deed in enumerate(row):
        state = step(hall, state, deed)
        if state is None:
            return index
    return state


def reachable(hall, state):
    """Return the set of all states that can be reached."""
    found = {state}
    waiting = [state]
    while waiting:
        here = waiting.pop()
        for deed in deeds(hall, here):
            there = step(hall, here, deed)
            if there not in found:
                found.add(there)
                waiting.append(there)
    return found


def all_states(hall, walkers):
    """Return all states of the hall with these walkers."""
    found = []
    for faces in itertools.product(*[door[1:] for door in hall[1]]):
        for rooms in itertools.product(hall[0], repeat=len(walkers)):
            found.append((faces, tuple(zip(walkers, rooms))))
    return found


def halls_with(rooms, doors):
    """Return all halls with these numbers of rooms and doors, one for each choice of the doors' ends."""
    names = tuple(LETTERS[:rooms])
    found = []
    for ends in itertools.combinations_with_replacement(itertools.combinations(names, 2), doors):
        # Some doors name their ends the other way round, as a hall may.
        turned = [pair[::-1] if at % 2 else pair for at, pair in enumerate(ends)]
        found.append((names, tuple((LETTERS[-1 - at], *pair) for at, pair in enumerate(turned))))
    return found


def small_halls():
    """Return all halls with up to three rooms and up to three doors, and some with four."""
    found = halls_with(1, 0)
    for rooms, most in ((2, 4), (3, 3)):
        for doors in range(most + 1):
            found.extend(halls_with(rooms, doors))
    return found + halls_with(4, 3)[::5]


def small_states(walkers, most):
    """Return the small halls, each with some of its states with these walkers."""
    found = []
    for hall in small_halls():
        states = all_states(hall, walkers)
        found.extend([(hall, state) for state in states[::1 + len(states) // most]])
    return found


def tuples_of_lots(rooms, most):
    """Return all tuples of up to so many tuples of different rooms; some of them have a room in two lots."""
    lots = [lot for size in range(len(rooms) + 1) for lot in itertools.permutations(rooms, size)]
    return [value for length in range(most + 1) for value in itertools.product(lots, repeat=length)]


def room_counts(hall, state):
    """Return the count of each room."""
    counts = {room: 0 for room in hall[0]}
    for face in state[0]:
        counts[face] += 1
    for _, room in state[1]:
        counts[room] -= 1
    return counts


def reaches(hall, state):
    """Return the reach of each walker as a set."""
    found = {}
    for walker, room in state[1]:
        rooms = {room}
        for _ in hall[0]:
            for door, face in zip(hall[1], state[0]):
                if face in rooms:
                    rooms.add(_other(door, face))
        found[walker] = rooms
    return found


def bands(hall, state):
    """Return the bands as pairs of a set of walkers and a set of rooms."""
    parts = [({walker}, set(rooms)) for walker, rooms in reaches(hall, state).items()]
    for _ in state[1]:
        for one, other in itertools.combinations(parts, 2):
            if one[1] & other[1]:
                parts.remove(one)
                parts.remove(other)
                parts.append((one[0] | other[0], one[1] | other[1]))
                break
    return parts


def still(hall, state):
    """Return the still doors."""
    grounds = [ground for _, ground in bands(hall, state)]
    return tuple(door[0] for door in hall[1] if not any(set(door[1:]) <= ground for ground in grounds))


def is_enclosure(hall, state, lots):
    """Tell whether a tuple of tuples of strings is an enclosure."""
    rooms = [room for lot in lots for room in lot]
    if () in lots or sorted(rooms) != sorted(set(rooms)) or not set(rooms) <= set(hall[0]):
        return False
    for lot in lots:
        for door, face in zip(hall[1], state[0]):
            inside = [end for end in door[1:] if end in lot]
            if len(inside) == 1 and face == inside[0]:
                return False
    return all(room in rooms for _, room in state[1])


def clashes(hall, state, target, lots):
    """Return all clashes of a state and a target, the enclosures being among these tuples of lots."""
    found = []
    now, then = room_counts(hall, state), room_counts(hall, target)
    for room in hall[0]:
        if now[room] != then[room]:
            found.append(("count", room, now[room], then[room]))
    for enclosure in lots:
        if is_enclosure(hall, state, enclosure):
            for walker, room in state[1]:
                lot = [lot for lot in enclosure if room in lot][0]
                if dict(target[1])[walker] not in lot:
                    found.append(("place", walker, enclosure))
            for door, one, other in zip(hall[1], state[0], target[0]):
                if one != other and not any(set(door[1:]) <= set(lot) for lot in enclosure):
                    found.append(("door", door[0], enclosure))
    return found


def exchanged(row):
    """Return the set of all rows into which exchanges turn the row."""
    found = {tuple(row)}
    waiting = [tuple(row)]
    while waiting:
        here = waiting.pop()
        for at in range(len(here) - 1):
            one, other = here[at:at + 2]
            if one[0] != other[0] and one[1] != other[1]:
                there = here[:at] + (other, one) + here[at + 2:]
                if there not in found:
                    found.add(there)
                    waiting.append(there)
    return found


def waits(walkers, doors):
    """Return the pairs (deed, other) in which the deed waits for the other one; a deed is a pair (walker, n)."""
    found = set()
    for walker, sequence in walkers:
        for n in range(1, len(sequence)):
            found.add(((walker, n), (walker, n - 1)))
    for door, sequence in doors:
        places = {walker: iter([n for n, name in enumerate(names) if name == door]) for walker, names in walkers}
        order = [(walker, next(places[walker])) for walker in sequence]
        found.update(zip(order[1:], order))
    return found


class Dice:
    """Choices that look like chance and are the same in each run."""

    def __init__(self, seed):
        self.random = random.Random(seed)

    def hall(self, rooms, doors):
        names = [LETTERS[n] for n in range(rooms)]
        self.random.shuffle(names)
        joined = [(LETTERS[at] + "d", *self.random.sample(names, 2)) for at in range(doors)]
        self.random.shuffle(joined)
        return (tuple(names), tuple(joined))

    def state(self, hall, walkers):
        faces = tuple(self.random.choice(door[1:]) for door in hall[1])
        return (faces, tuple((LETTERS[n] + "w", self.random.choice(hall[0])) for n in range(walkers)))

    def hall_and_state(self, rooms=8, doors=12, walkers=5):
        """Return a hall and a state of at most this size."""
        rooms = self.random.randint(1, rooms)
        hall = self.hall(rooms, self.random.randint(0, doors) if rooms > 1 else 0)
        return hall, self.state(hall, self.random.randint(0, walkers))

    def walk(self, hall, state, length):
        """Return a row that can be done, of this length or as long as a deed can be done."""
        row = []
        while len(row) < length and deeds(hall, state):
            row.append(self.random.choice(deeds(hall, state)))
            state = step(hall, state, row[-1])
        return tuple(row)

    def row(self, walkers, doors, length):
        """Return any row of this length with these numbers of names."""
        return tuple((self.random.choice(LETTERS[:walkers]), self.random.choice(LETTERS[:doors])) for _ in range(length))

    def shuffled(self, places):
        """Return the same walkers, who have taken one another's rooms by chance."""
        rooms = [room for _, room in places]
        self.random.shuffle(rooms)
        return tuple((walker, room) for (walker, _), room in zip(places, rooms))
