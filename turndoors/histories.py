"""Histories: rows that differ only in the order of deeds that have nothing to do with each other."""

from turndoors.forms import is_whole


def same_history(one, other):
    """Tell whether exchanges of neighbouring deeds turn the one row into the other."""
    return projections(one) == projections(other)


def projections(row):
    """Return the doors of each walker and the walkers of each door, in the order of the row."""
    doors = {}
    walkers = {}
    for walker, door in row:
        doors.setdefault(walker, []).append(door)
        walkers.setdefault(door, []).append(walker)
    return (_ascending(doors), _ascending(walkers))


def _ascending(sequences):
    return tuple([(name, tuple(sequences[name])) for name in sorted(sequences)])


def least_row(row):
    """Return the least row of the same history."""
    walkers, doors = projections(row)
    return _least_row(walkers, doors)


def rounds(row):
    """Return the row in as few rounds as possible, each deed in the earliest round possible."""
    found = []
    # A walker and a door may have the same name, so each kind has a dict of its own.
    walker_rounds = {}
    door_rounds = {}
    for walker, door in row:
        index = max(walker_rounds.get(walker, 0), door_rounds.get(door, 0))
        if index == len(found):
            found.append([])
        found[index].append((walker, door))
        walker_rounds[walker] = index + 1
        door_rounds[door] = index + 1
    return tuple([tuple(sorted(deeds)) for deeds in found])


def merge(walkers, doors):
    """Return a count that differs, or the least row with these projections, or a ring of deeds that wait."""
    uneven = _uneven_pairs(walkers, doors)
    if uneven:
        walker, door = min(uneven)
        return ("count", walker, door)
    row = _least_row(walkers, doors)
    if len(row) == sum([len(sequence) for walker, sequence in walkers]):
        return ("row", row)
    return ("ring", _ring(walkers, doors, row))


def is_ring(walkers, doors, value):
    """Tell whether the value is a ring of deeds that wait for one another."""
    if not isinstance(value, tuple) or len(value) == 0:
        return False
    waits = _waits(walkers, doors)
    if not all([_is_deed(deed) and deed in waits for deed in value]):
        return False
    if len(set(value)) != len(value):
        return False
    followers = value[1:] + value[:1]
    return all([follower in waits[deed] for deed, follower in zip(value, followers)])


def _is_deed(value):
    # True equals 1 and would be found among the deeds, so the kinds are checked before the value is looked up.
    if not isinstance(value, tuple) or len(value) != 2:
        return False
    return isinstance(value[0], str) and is_whole(value[1])


def _uneven_pairs(walkers, doors):
    """Return the pairs (walker, door) that do not occur equally often in both arguments."""
    surplus = {}
    for walker, sequence in walkers:
        for door in sequence:
            surplus[(walker, door)] = surplus.get((walker, door), 0) + 1
    for door, sequence in doors:
        for walker in sequence:
            surplus[(walker, door)] = surplus.get((walker, door), 0) - 1
    return [pair for pair, number in surplus.items() if number != 0]


def _least_row(walkers, doors):
    """Return the least row with these projections, or as much of it as can be done before all deeds wait."""
    doors_left = {walker: list(sequence) for walker, sequence in walkers}
    walkers_left = {door: list(sequence) for door, sequence in doors}
    row = []
    free = _free_deeds(doors_left, walkers_left)
    while free:
        walker, door = min(free)
        row.append((walker, door))
        doors_left[walker].pop(0)
        walkers_left[door].pop(0)
        free = _free_deeds(doors_left, walkers_left)
    return tuple(row)


def _free_deeds(doors_left, walkers_left):
    """Return the deeds that are the next ones both of their walker and of their door."""
    nexts = [(walker, sequence[0]) for walker, sequence in doors_left.items() if sequence]
    return [(walker, door) for walker, door in nexts if walkers_left[door][0] == walker]


def _ring(walkers, doors, row):
    """Return a ring among the deeds that are not in the row, the row being as long as it can be."""
    waits = _waits(walkers, doors)
    done = [walker for walker, door in row]
    left = [(walker, n) for walker, n in waits if n >= done.count(walker)]
    # Each deed that is left waits for another one that is left, so a chain of them comes back to itself.
    chain = []
    deed = left[0]
    while deed not in chain:
        chain.append(deed)
        befores = [before for before in waits[deed] if before in left]
        deed = befores[0]
    return tuple(chain[chain.index(deed):])


def _waits(walkers, doors):
    """Return for each deed, as a pair (walker, n), the list of the deeds for which it waits."""
    waits = {}
    deeds = {}
    for walker, sequence in walkers:
        for n, door in enumerate(sequence):
            waits[(walker, n)] = [(walker, n - 1)] if n > 0 else []
            deeds.setdefault((walker, door), []).append((walker, n))
    for door, sequence in doors:
        ordered = [deeds[(walker, door)][sequence[:at].count(walker)] for at, walker in enumerate(sequence)]
        for before, deed in zip(ordered, ordered[1:]):
            waits[deed].append(before)
    return waits
