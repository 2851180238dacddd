"""A desk that takes commands as texts and answers them as texts."""

from turndoors.bands import bands, reach, still_doors
from turndoors.connect import connect
from turndoors.crowding import most_in
from turndoors.errors import InvalidCommand
from turndoors.forms import is_name
from turndoors.keeper import Keeper
from turndoors.moves import face_of
from turndoors.reachable import count_states
from turndoors.states import room_of
from turndoors.texts import format_state, parse_hall, parse_state

# In commands and answers this stands for a line feed.
_BREAK = " ; "


def _pass(keeper, walker, door):
    keeper.pass_door(walker, door)
    return f"in {room_of(keeper.state(), walker)}"


def _turn(keeper, door):
    keeper.turn(door)
    return f"faces {face_of(keeper.hall(), keeper.state(), door)}"


def _put(keeper, walker, room):
    keeper.put(walker, room)
    return f"in {room}"


def _remove(keeper, walker):
    room = room_of(keeper.state(), walker)
    keeper.remove(walker)
    return f"was in {room}"


def _undo(keeper):
    return "undone" if keeper.undo() else "nothing"


def _show(keeper):
    return format_state(keeper.state()).replace("\n", _BREAK)


def _counts(keeper):
    return " ".join([str(count) for count in keeper.counts()])


def _reach(keeper, walker):
    return " ".join(reach(keeper.hall(), keeper.state(), walker))


def _bands(keeper):
    parts = [" ".join(walkers) for walkers, ground in bands(keeper.hall(), keeper.state())]
    return " / ".join(parts) if parts else "none"


def _still(keeper):
    doors = still_doors(keeper.hall(), keeper.state())
    return " ".join(doors) if doors else "none"


def _states(keeper):
    return str(count_states(keeper.hall(), keeper.state()))


def _most(keeper, room):
    return str(most_in(keeper.hall(), keeper.state(), room)[0])


def _connect(keeper, text):
    target = parse_state(keeper.hall(), text)
    return "yes" if connect(keeper.hall(), keeper.state(), target)[0] == "row" else "no"


def _back(keeper):
    deeds = [" ".join(deed) for deed in keeper.way_back()]
    return " , ".join(deeds) if deeds else "here"


# What each command calls that needs a keeper and does not replace it.
_ACTIONS = {
    "pass": _pass, "turn": _turn, "put": _put, "remove": _remove, "undo": _undo, "show": _show, "counts": _counts,
    "reach": _reach, "bands": _bands, "still": _still, "states": _states, "most": _most, "connect": _connect,
    "back": _back,
}

# How many names each command has that has no text.
_NAMES = {
    "pass": 2, "turn": 1, "put": 2, "remove": 1, "undo": 0, "show": 0, "counts": 0, "reach": 1, "bands": 0, "still": 0,
    "states": 0, "most": 1, "back": 0,
}

_WITH_TEXT = ("hall", "state", "connect")


class Desk:
    """A keeper, or none at first, that commands are about."""

    def __init__(self):
        self._keeper = None

    def say(self, command):
        """Carry out the command and return its answer."""
        word, rest = _parts(command)
        if word == "hall":
            return self._take_hall(rest[0])
        if self._keeper is None:
            raise InvalidCommand()
        if word == "state":
            return self._take_state(rest[0])
        action = _ACTIONS[word]
        return action(self._keeper, *rest)

    def _take_hall(self, text):
        hall = parse_hall(text)
        self._keeper = Keeper(hall, (tuple([one for door, one, other in hall[1]]), ()))
        return f"{len(hall[1])} doors"

    def _take_state(self, text):
        hall = self._keeper.hall()
        self._keeper = Keeper(hall, parse_state(hall, text))
        return f"{len(self._keeper)} walkers"

    def __len__(self):
        if self._keeper is None:
            return 0
        return len(self._keeper)


def _parts(command):
    """Return the first word of the command, and a list of its names or of its one text, else raise InvalidCommand."""
    words = command.split(" ")
    if "\n" in command or "" in words:
        raise InvalidCommand()
    word, *rest = words
    if word in _WITH_TEXT and rest:
        return (word, [" ".join(rest).replace(_BREAK, "\n")])
    if len(rest) != _NAMES.get(word) or not all([is_name(name) for name in rest]):
        raise InvalidCommand()
    return (word, rest)
