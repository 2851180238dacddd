"""Texts of halls and states."""

from turndoors.errors import InvalidText
from turndoors.forms import is_name
from turndoors.halls import DOORS, ROOMS
from turndoors.states import WALKERS


def format_hall(hall):
    """Return the text of a hall."""
    rooms, doors = hall
    return _join_lines(["rooms", *rooms], "door", doors)


def parse_hall(text):
    """Return the hall with this text, else raise InvalidText."""
    lines = _split_lines(text)
    if not _is_rooms_line(lines[0]):
        raise InvalidText(0)
    rooms = tuple(lines[0][1:])
    doors = []
    for index, words in enumerate(lines[1:], start=1):
        names = [door[0] for door in doors]
        if index > DOORS or not _is_door_line(words, rooms, names):
            raise InvalidText(index)
        doors.append(tuple(words[1:]))
    return (rooms, tuple(doors))


def format_state(state):
    """Return the text of a state."""
    faces, places = state
    return _join_lines(["faces", *faces], "walker", places)


def parse_state(hall, text):
    """Return the state of the hall with this text, else raise InvalidText."""
    rooms, doors = hall
    lines = _split_lines(text)
    if not _is_faces_line(lines[0], doors):
        raise InvalidText(0)
    places = []
    # Every name is greater than the empty string, so the first walker needs no case of its own.
    before = ""
    for index, words in enumerate(lines[1:], start=1):
        if index > WALKERS or not _is_walker_line(words, before, rooms):
            raise InvalidText(index)
        before = words[1]
        places.append((before, words[2]))
    return (tuple(lines[0][1:]), tuple(places))


def _join_lines(first, word, rows):
    lines = [first] + [[word, *row] for row in rows]
    return "\n".join([" ".join(words) for words in lines])


def _split_lines(text):
    return [line.split(" ") for line in text.split("\n")]


def _is_rooms_line(words):
    rooms = words[1:]
    if words[0] != "rooms" or not 1 <= len(rooms) <= ROOMS:
        return False
    return len(set(rooms)) == len(rooms) and all([is_name(room) for room in rooms])


def _is_door_line(words, rooms, names):
    if len(words) != 4 or words[0] != "door":
        return False
    name, one, other = words[1:]
    if not is_name(name) or name in names:
        return False
    return one != other and one in rooms and other in rooms


def _is_faces_line(words, doors):
    faces = words[1:]
    if words[0] != "faces" or len(faces) != len(doors):
        return False
    return all([face in (one, other) for face, (name, one, other) in zip(faces, doors)])


def _is_walker_line(words, before, rooms):
    if len(words) != 3 or words[0] != "walker":
        return False
    walker, room = words[1:]
    return is_name(walker) and walker > before and room in rooms
