"""Whether values are results as the document describes them, found slowly and from its words alone."""

import itertools

from tests import model


def is_number(value):
    return type(value) is int


def leads(hall, state, value):
    """Return the state to which the value leads, or None if it is not a tuple of pairs of strings that can be done."""
    if type(value) is not tuple:
        return None
    for deed in value:
        if type(deed) is not tuple or len(deed) != 2 or type(deed[0]) is not str or type(deed[1]) is not str:
            return None
    there = model.lead(hall, state, value)
    return None if isinstance(there, int) else there


def are_rooms(hall, value):
    """Tell whether the value is a tuple of different rooms of the hall."""
    return type(value) is tuple and all(value.count(room) == 1 and room in hall[0] for room in value)


def number_in(state, room):
    return [place for _, place in state[1]].count(room)


def outward(hall, state, rooms):
    """Return the number of doors with exactly one end among the rooms that face their other end."""
    number = 0
    for (_, one, other), face in zip(hall[1], state[0]):
        if len({one, other} & set(rooms)) == 1 and face not in rooms:
            number += 1
    return number


def most(hall, state, room):
    """Return the greatest number of walkers in the room in any state that can be reached."""
    return max(number_in(there, room) for there in model.reachable(hall, state))


def is_most(hall, state, room, value, greatest):
    """Tell whether the value is a result of most_in; the greatest number is known already."""
    if type(value) is not tuple or len(value) != 3 or not is_number(value[0]) or value[0] != greatest:
        return False
    there = leads(hall, state, value[1])
    if there is None or number_in(there, room) != greatest:
        return False
    rooms = value[2]
    if not are_rooms(hall, rooms) or room not in rooms:
        return False
    return sum(number_in(state, name) for name in rooms) + outward(hall, state, rooms) == greatest


def turned(hall, state, doors):
    """Return the state after each of these doors was turned by hand."""
    faces = []
    for (name, one, other), face in zip(hall[1], state[0]):
        faces.append({one: other, other: one}[face] if name in doors else face)
    return (tuple(faces), state[1])


def counts(hall, state):
    return tuple(model.room_counts(hall, state).values())


def fewest(hall, state, wanted):
    """Return the least number of doors that give every room the wanted count if they turn, or None."""
    names = [door[0] for door in hall[1]]
    for size in range(len(names) + 1):
        for doors in itertools.combinations(names, size):
            if counts(hall, turned(hall, state, doors)) == wanted:
                return size
    return None


def proves_turns(hall, state, wanted, value):
    """Tell whether the value says which doors to turn, with heights whose sums are as the document describes."""
    if type(value) is not tuple or len(value) != 3 or value[0] != "turns":
        return False
    _, doors, heights = value
    names = [door[0] for door in hall[1]]
    if type(doors) is not tuple or not all(door in names for door in doors):
        return False
    if [names.index(door) for door in doors] != sorted({names.index(door) for door in doors}):
        return False
    if counts(hall, turned(hall, state, doors)) != wanted:
        return False
    if type(heights) is not tuple or len(heights) != len(hall[0]) or not all(is_number(height) for height in heights):
        return False
    height = dict(zip(hall[0], heights))
    total = sum((then - now) * high for then, now, high in zip(wanted, counts(hall, state), heights))
    for (_, one, other), face in zip(hall[1], state[0]):
        total -= max(0, height[{one: other, other: one}[face]] - height[face] - 1)
    return total == len(doors)


def proves_never(hall, state, wanted, value):
    """Tell whether the value says that no doors are enough, with rooms that need more than the doors can give."""
    if type(value) is not tuple or len(value) != 2 or value[0] != "never":
        return False
    rooms = value[1]
    if not are_rooms(hall, rooms) or rooms == ():
        return False
    needed = sum(then - now for room, then, now in zip(hall[0], wanted, counts(hall, state)) if room in rooms)
    return needed > outward(hall, state, rooms)


def distances(hall, start):
    """Return the least number of deeds from each state that can be reached to the start."""
    found = {start: 0}
    newest = [start]
    while newest:
        further = []
        for here in newest:
            for deed in model.deeds(hall, here):
                there = model.step(hall, here, deed)
                if there not in found:
                    found[there] = found[here] + 1
                    further.append(there)
        newest = further
    return found


def is_shortest(hall, state, target, value, reachable):
    """Tell whether the value is a row and a table as described for a target among these reachable states."""
    if type(value) is not tuple or len(value) != 3 or value[0] != "row":
        return False
    _, row, table = value
    if leads(hall, state, row) != target or type(table) is not tuple:
        return False
    if not all(type(entry) is tuple and len(entry) == 2 and is_number(entry[1]) for entry in table):
        return False
    if [entry[0] for entry in table] != sorted(reachable):
        return False
    numbers = dict(table)
    for here in reachable:
        for deed in model.deeds(hall, here):
            if abs(numbers[here] - numbers[model.step(hall, here, deed)]) > 1:
                return False
    return numbers[target] == 0 and numbers[state] == len(row)


def beginnings(hall, row):
    """Return all beginnings of the row, each room and each face tried."""
    doors = sorted({door for _, door in row})
    walkers = sorted({walker for walker, _ in row})
    ends = {door[0]: door[1:] for door in hall[1]}
    found = []
    for faces in itertools.product(*[ends[door] for door in doors]):
        state_faces = tuple(dict(zip(doors, faces)).get(door[0], door[1]) for door in hall[1])
        for rooms in itertools.product(hall[0], repeat=len(walkers)):
            places = tuple(zip(walkers, rooms))
            if not isinstance(model.lead(hall, (state_faces, places), row), int):
                found.append((tuple(zip(doors, faces)), places))
    return tuple(sorted(found))
