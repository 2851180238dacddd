"""A keeper of a hall and a state, which change over many calls and can be taken back."""

from turndoors.errors import HallError, Rejected, UnknownDoor, UnknownRoom, UnknownWalker
from turndoors.forms import is_name, is_strings
from turndoors.halls import validate_hall
from turndoors.moves import pass_door, put_walker, remove_walker, reverse, turn_door
from turndoors.states import counts, validate_state

# How many strings a change of each kind has.
_WIDTHS = {"pass": 3, "turn": 2, "put": 3, "remove": 2}


class Keeper:
    """A hall, a state of it, and the changes that led to this state."""

    def __init__(self, hall, state):
        validate_hall(hall)
        validate_state(hall, state)
        self._hall = hall
        self._state = state
        # Each change that is not undone, with the state before it.
        self._past = []

    def pass_door(self, walker, door):
        """Let the walker pass the door."""
        self._change(("pass", walker, door), pass_door(self._hall, self._state, walker, door))

    def turn(self, door):
        """Turn the door by hand."""
        self._change(("turn", door), turn_door(self._hall, self._state, door))

    def put(self, walker, room):
        """Put a new walker into the room."""
        if not is_name(walker):
            raise Rejected(0)
        self._change(("put", walker, room), put_walker(self._hall, self._state, walker, room))

    def remove(self, walker):
        """Remove the walker."""
        self._change(("remove", walker), remove_walker(self._state, walker))

    def undo(self):
        """Take back the last change and return True, or return False if there is none."""
        if not self._past:
            return False
        _, self._state = self._past.pop()
        return True

    def several(self, changes, *, whole=True):
        """Make the changes and return their number, else raise Rejected; if whole, then none of them remains."""
        many = len(self._past)
        for index, change in enumerate(changes):
            if not self._is_made(change):
                if whole:
                    self._undo_to(many)
                raise Rejected(index)
        return len(changes)

    def log(self):
        """Return the list of all changes that are not undone."""
        return [change for change, before in self._past]

    def state(self):
        """Return the state."""
        return self._state

    def hall(self):
        """Return the hall."""
        return self._hall

    def counts(self):
        """Return the counts of all rooms."""
        return counts(self._hall, self._state)

    def trail(self):
        """Return the row of all passes after the last change that is not a pass."""
        return reverse(self.way_back())

    def way_back(self):
        """Return the reversed trail, which leads back to its beginning."""
        row = []
        for kind, *names in reversed(self.log()):
            if kind != "pass":
                break
            row.append(tuple(names))
        return tuple(row)

    def _change(self, change, state):
        self._past.append((change, self._state))
        self._state = state

    def _undo_to(self, many):
        while len(self._past) > many:
            self.undo()

    def _is_made(self, value):
        """Make the change if the value is one that can be made, and tell whether it was."""
        if not is_strings(value) or len(value) == 0 or _WIDTHS.get(value[0]) != len(value):
            return False
        try:
            self._make(value)
        except (HallError, UnknownDoor, UnknownRoom, UnknownWalker):
            return False
        return True

    def _make(self, change):
        kind, name, *rest = change
        if kind == "pass":
            self.pass_door(name, rest[0])
        elif kind == "turn":
            self.turn(name)
        elif kind == "put":
            self.put(name, rest[0])
        else:
            self.remove(name)

    def __len__(self):
        return len(self._state[1])

    def __eq__(self, other):
        return isinstance(other, Keeper) and self._hall == other._hall and self._state == other._state

    def __repr__(self):
        return f"Keeper({len(self._hall[0])}, {len(self._state[1])})"
