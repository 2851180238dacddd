"""Ways: which rooms can be got to through the doors as they face, and by which doors."""


def spread(start, steps):
    """Return a dict of all that steps lead to from the start, nearest first, each with a shortest tuple of steps.

    The function steps takes one thing and gives the pairs (step, next thing).
    """
    found = {start: ()}
    newest = [start]
    while newest:
        further = []
        for here in newest:
            for step, there in steps(here):
                if there not in found:
                    found[there] = found[here] + (step,)
                    further.append(there)
        newest = further
    return found


def ways_from(hall, faces, room):
    """Return a dict of the rooms to which a path leads from this room, nearest first, each with a shortest path."""
    return spread(room, lambda here: ways_out(hall, faces, here))


def ways_in(hall, faces, rooms):
    """Return the doors with exactly one end among these rooms that face their other end."""
    return [door for door, start, end in ways_of(hall, faces) if start not in rooms and end in rooms]


def ways_out(hall, faces, room):
    """Return the pairs (door, its other end) of the doors that face the room."""
    return [(door, end) for door, start, end in ways_of(hall, faces) if start == room]


def ways_of(hall, faces):
    """Return for each door its name, the room that it faces, and its other end."""
    return [(door, face, other if face == one else one) for (door, one, other), face in zip(hall[1], faces)]
