"""Machines, what their rooms hold, and how it moves."""

from fullbelts.errors import BadMachine, NoBelt, NoCarries, NoHolding
from fullbelts.kinds import is_integer, is_number, is_tuple

MOST_BELTS = 6
LONGEST = 8
MOST_ROOMS = 12
MOST_CARRIES = 1000


class Machine:
    """The lengths of the belts of a machine."""

    def __init__(self, belts):
        if not are_lengths(belts):
            raise BadMachine()
        self._lengths = belts
        self.size = sum(belts)

    @property
    def belts(self):
        """The tuple of the lengths."""
        return self._lengths

    def __eq__(self, other):
        return isinstance(other, Machine) and self._lengths == other._lengths


def are_lengths(thing):
    """Whether these are the lengths of the belts of a machine."""
    if not is_tuple(thing, 1, MOST_BELTS):
        return False
    if not all([is_integer(length) and 1 <= length <= LONGEST for length in thing]):
        return False
    return sum(thing) <= MOST_ROOMS


def is_room(lengths, thing):
    if not is_tuple(thing, 2, 2) or not is_number(thing[0], len(lengths)):
        return False
    return is_number(thing[1], lengths[thing[0]])


def room_number(lengths, room):
    """The number of a room when all rooms are counted belt by belt."""
    return sum(lengths[:room[0]]) + room[1]


def is_holding(thing):
    """Whether it is a holding of any machine."""
    if not isinstance(thing, tuple) or not all([isinstance(row, tuple) for row in thing]):
        return False
    if not are_lengths(lengths_of(thing)):
        return False
    return all([item is None or isinstance(item, str) or is_integer(item) for row in thing for item in row])


def lengths_of(holding):
    return tuple([len(row) for row in holding])


def empty(machine):
    """The holding of nothing."""
    return tuple([(None,) * length for length in machine.belts])


def put(holding, belt, thing):
    """The holding when the thing is put in at the belt."""
    if not is_holding(holding):
        raise NoHolding()
    if not is_number(belt, len(holding)):
        raise NoBelt()
    return pushed(holding, belt, thing)


def pushed(holding, belt, thing):
    row = (thing,) + holding[belt][:-1]
    return holding[:belt] + (row,) + holding[belt + 1:]


def carried(holding, carries):
    """The holding behind the carries."""
    if not is_holding(holding):
        raise NoHolding()
    if not isinstance(carries, (list, tuple)) or not are_carries(lengths_of(holding), carries):
        raise NoCarries()
    return moved(holding, carries)


def are_carries(lengths, things):
    """Whether a list or tuple is one of carries for belts of these lengths."""
    if len(things) > MOST_CARRIES:
        return False
    return all([is_carry(lengths, thing) for thing in things])


def is_carry(lengths, thing):
    return is_tuple(thing, 2, 2) and is_room(lengths, thing[0]) and is_number(thing[1], len(lengths))


def moved(holding, carries):
    behind = holding
    for room, belt in carries:
        behind = pushed(behind, belt, behind[room[0]][room[1]])
    return behind
