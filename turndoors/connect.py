"""From state to state: a row that leads there, or a clash that shows that none does."""

from turndoors.bands import bands, grounds, in_one_lot, is_enclosure, still_doors
from turndoors.errors import Mismatch
from turndoors.exchanges import exchange_row
from turndoors.forms import is_whole
from turndoors.halls import ends_of
from turndoors.moves import face_of, run
from turndoors.states import counts, room_of
from turndoors.ways import ways_from, ways_out


def connect(hall, state, target):
    """Return a row from the state to the target, or a clash if there is no row."""
    check_walkers(state, target)
    clash = find_clash(hall, state, target)
    if clash is not None:
        return clash
    turning = _turning_row(hall, state, target)
    sorting = _sorting_row(hall, run(hall, state, turning), target)
    return ("row", turning + sorting)


def is_clash(hall, state, target, value):
    """Tell whether the value is a clash, which shows that the target cannot be reached from the state."""
    check_walkers(state, target)
    if not isinstance(value, tuple) or len(value) == 0:
        return False
    if value[0] == "count":
        return _is_count_clash(hall, state, target, value)
    if value[0] == "place":
        return _is_place_clash(hall, state, target, value)
    return value[0] == "door" and _is_door_clash(hall, state, target, value)


def check_walkers(state, target):
    """Raise Mismatch for the least walker that only one of the two states has."""
    ones = _walkers(state)
    others = _walkers(target)
    lone = [walker for walker in ones + others if walker not in ones or walker not in others]
    if lone:
        raise Mismatch(min(lone))


def _walkers(state):
    return [walker for walker, room in state[1]]


def _is_count_clash(hall, state, target, value):
    if len(value) != 4:
        return False
    _, room, now, then = value
    if room not in hall[0] or not is_whole(now) or not is_whole(then):
        return False
    at = hall[0].index(room)
    return now != then and now == counts(hall, state)[at] and then == counts(hall, target)[at]


def _is_place_clash(hall, state, target, value):
    if len(value) != 3 or value[1] not in _walkers(state) or not is_enclosure(hall, state, value[2]):
        return False
    _, walker, enclosure = value
    return not in_one_lot(enclosure, room_of(state, walker), room_of(target, walker))


def _is_door_clash(hall, state, target, value):
    doors = [name for name, one, other in hall[1]]
    if len(value) != 3 or value[1] not in doors or not is_enclosure(hall, state, value[2]):
        return False
    _, door, enclosure = value
    one, other = ends_of(hall, door)
    return not in_one_lot(enclosure, one, other) and face_of(hall, state, door) != face_of(hall, target, door)


def find_clash(hall, state, target):
    """Return a clash, or None if there is none, which means that the target can be reached."""
    for room, now, then in zip(hall[0], counts(hall, state), counts(hall, target)):
        if now != then:
            return ("count", room, now, then)
    enclosure = grounds(hall, state)
    for walkers, ground in bands(hall, state):
        for walker in walkers:
            if room_of(target, walker) not in ground:
                return ("place", walker, enclosure)
    for door in still_doors(hall, state):
        if face_of(hall, state, door) != face_of(hall, target, door):
            return ("door", door, enclosure)
    return None


def _turning_row(hall, state, target):
    """Return a row after which every door faces as in the target."""
    row = ()
    while state[0] != target[0]:
        part = _turning_part(hall, state, target)
        state = run(hall, state, part)
        row = row + part
    return row


def _turning_part(hall, state, target):
    """Return a row after which fewer doors face other rooms than in the target, and none does so anew."""
    wrong = [door[0] for door, face, wanted in zip(hall[1], state[0], target[0]) if face != wanted]
    walker, way, room = _nearest_way(hall, state, [face_of(hall, state, door) for door in wrong])
    tour = _tour(hall, state[0], wrong, room)
    # As long as some room has more walkers than in the target, a wrong door faces a walker's room, so the way is empty.
    # Otherwise each room has as many wrong doors to go in by as to go out by. So the tour ends where it began, and the
    # walker, which came by doors that face as they should, can go back to leave them so.
    back = way[::-1]
    return tuple([(walker, door) for door in [*way, *tour, *back]])


def _nearest_way(hall, state, goals):
    """Return a walker, a path as short as any walker has to one of these rooms, and the room."""
    found = []
    for walker, start in state[1]:
        ways = ways_from(hall, state[0], start)
        found.extend([(len(way), walker, way, room) for room, way in ways.items() if room in goals])
    _, walker, way, room = min(found)
    return (walker, way, room)


def _tour(hall, faces, wrong, room):
    """Return the doors on a way from the room through wrong doors, each taken once, as far as it goes."""
    left = list(wrong)
    tour = []
    onward = _wrong_ways_out(hall, faces, left, room)
    while onward:
        door, room = onward[0]
        left.remove(door)
        tour.append(door)
        onward = _wrong_ways_out(hall, faces, left, room)
    return tour


def _wrong_ways_out(hall, faces, wrong, room):
    return [(door, there) for door, there in ways_out(hall, faces, room) if door in wrong]


def _sorting_row(hall, state, target):
    """Return a row to the target from a state in which the doors face as in the target."""
    row = ()
    for walker, room in target[1]:
        if room_of(state, walker) != room:
            part = exchange_row(hall, state, walker, _guest(state, target, room))
            state = run(hall, state, part)
            row = row + part
    return row


def _guest(state, target, room):
    """Return a walker that stands in the room and does not in the target."""
    guests = [walker for walker, place in state[1] if place == room and room_of(target, walker) != room]
    return guests[0]
