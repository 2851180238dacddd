"""Turning doors by hand: the fewest turns that give every room a wanted count."""

from turndoors.errors import Unbalanced
from turndoors.forms import is_choice, is_strings, is_whole
from turndoors.moves import turn_door
from turndoors.states import counts
from turndoors.ways import ways_in, ways_of


def fewest_turns(hall, state, wanted):
    """Return the fewest doors to turn and heights that show it, or rooms that show that no doors are enough."""
    needs = _needs(hall, state, wanted)
    now = state
    # The cheapest way from a room with too high a count to one with too low a count is turned each time. So the doors
    # that are turned so far are always as few as can be for the counts that they give.
    while any([need != 0 for need in needs]):
        ways = _cheapest_ways(hall, state, now, [room for room, need in zip(hall[0], needs) if need < 0])
        ends = [(ways[room], room) for room, need in zip(hall[0], needs) if need > 0 and room in ways]
        if not ends:
            # By now no door leads into the rooms without a way, and together they still need more than nothing. A turn
            # changes what they need by as much as the number of doors that lead in, so they needed too much at first.
            return ("never", tuple([room for room in hall[0] if room not in ways]))
        (_, doors), _ = min(ends)
        for door in doors:
            now = turn_door(hall, now, door)
        needs = _needs(hall, now, wanted)
    ways = _cheapest_ways(hall, state, now, hall[0])
    turned = [door[0] for door, face, there in zip(hall[1], state[0], now[0]) if face != there]
    return ("turns", tuple(turned), tuple([ways[room][0] for room in hall[0]]))


def is_fewest(hall, state, wanted, value):
    """Tell whether the value is a result of fewest_turns."""
    needs = _needs(hall, state, wanted)
    if not isinstance(value, tuple) or len(value) < 2:
        return False
    if value[0] == "never":
        return len(value) == 2 and _shows_never(hall, state, needs, value[1])
    if value[0] != "turns" or len(value) != 3:
        return False
    _, doors, heights = value
    return _are_turns(hall, state, wanted, doors) and _shows_fewest(hall, state, needs, doors, heights)


def _needs(hall, state, wanted):
    needs = [number - count for number, count in zip(wanted, counts(hall, state))]
    if sum(needs) != 0:
        raise Unbalanced(sum(needs))
    return needs


def _cheapest_ways(hall, state, now, starts):
    """Return a dict of the rooms to which ways lead from the starts, each with the cost and the doors of a cheapest.

    A door that is turned already costs -1, because to turn it back saves a turn; each other door costs 1.
    """
    ways = {room: (0, ()) for room in starts}
    for _ in hall[0]:
        for (door, start, end), face in zip(ways_of(hall, now[0]), state[0]):
            if start in ways:
                cost = ways[start][0] + (1 if start == face else -1)
                if end not in ways or cost < ways[end][0]:
                    ways[end] = (cost, (*ways[start][1], door))
    return ways


def _shows_never(hall, state, needs, rooms):
    if not is_choice(rooms, hall[0]) or len(rooms) == 0:
        return False
    needed = sum([need for room, need in zip(hall[0], needs) if room in rooms])
    return needed > len(ways_in(hall, state[0], rooms))


def _are_turns(hall, state, wanted, doors):
    """Tell whether the value is a tuple of doors in the order of the hall that give every room the wanted count."""
    if not is_strings(doors) or doors != tuple([door[0] for door in hall[1] if door[0] in doors]):
        return False
    now = state
    for door in doors:
        now = turn_door(hall, now, door)
    return counts(hall, now) == wanted


def _shows_fewest(hall, state, needs, doors, heights):
    """Tell whether the value is a tuple of heights for which needs and rises add up to the number of the doors."""
    if not isinstance(heights, tuple) or len(heights) != len(hall[0]):
        return False
    if not all([is_whole(height) for height in heights]):
        return False
    height_of = dict(zip(hall[0], heights))
    worth = sum([need * height for need, height in zip(needs, heights)])
    rises = [max(0, height_of[end] - height_of[start] - 1) for door, start, end in ways_of(hall, state[0])]
    return worth - sum(rises) == len(doors)
