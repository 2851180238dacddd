"""Observed passes: how a hall can have stood before a row that somebody saw."""

from turndoors.halls import ends_of


def beginnings(hall, seen):
    """Return all beginnings of the row, or the index of the first deed up to which there is none."""
    # Every door of the row is looked up first, because an unknown one is an error also behind a clash.
    ends = [ends_of(hall, door) for walker, door in seen]
    # A guess is a pair of dicts, one of doors and one of walkers: each with its first room and its room now. There are
    # never many, because a new guess is needed only where a walker's first door is new, too.
    guesses = [({}, {})]
    for index, (walker, door) in enumerate(seen):
        one, other = ends[index]
        guesses = _passed(guesses, walker, door, one, other) + _passed(guesses, walker, door, other, one)
        if not guesses:
            return ("clash", index)
    return ("may", tuple(sorted([(_firsts(doors), _firsts(walkers)) for doors, walkers in guesses])))


def _passed(guesses, walker, door, start, end):
    """Return the guesses in which the walker can pass the door from this end to the other one, after the pass."""
    found = []
    for doors, walkers in guesses:
        first_face, face = doors.get(door, (start, start))
        first_room, room = walkers.get(walker, (start, start))
        if face == start and room == start:
            found.append(({**doors, door: (first_face, end)}, {**walkers, walker: (first_room, end)}))
    return found


def _firsts(known):
    return tuple([(name, known[name][0]) for name in sorted(known)])
