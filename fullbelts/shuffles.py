"""Shuffles: carries that lead names to the rooms in which a goal has them."""

from fullbelts.codes import flat
from fullbelts.errors import NoHolding
from fullbelts.kinds import is_name
from fullbelts.machines import is_holding, lengths_of


class Seats:
    """The rooms of belts, taken as seats that stay while a mark goes round on each belt.

    A seat is told as the room in which it is at first. What is put in at a belt
    is written on the seat that is in the last room, and all its seats move on.
    """

    def __init__(self, lengths):
        self._lengths = lengths
        self._moved = [0 for _ in lengths]
        # The carries that were done.
        self.done = []

    def turn(self, belt, moved):
        """Write the seats of the belt with themselves until they have moved on so far."""
        while self._moved[belt] != moved:
            self._do((belt, self._lengths[belt] - 1), belt)

    def bring(self, seat, aim):
        """Write what is on the seat on another one, the aim."""
        belt, at = aim
        self.turn(belt, self._lengths[belt] - 1 - at)
        self._do((seat[0], (seat[1] + self._moved[seat[0]]) % self._lengths[seat[0]]), belt)

    def _do(self, room, belt):
        self.done.append((room, belt))
        self._moved[belt] = (self._moved[belt] + 1) % self._lengths[belt]


def shuffled(begin, goal):
    """Carries that lead from begin to where each name of goal is where goal has it, or None."""
    check_holdings(begin, goal)
    return carries_between(begin, goal)


def check_holdings(begin, goal):
    if not holds_unlike_names(begin) or not holds_unlike_names(goal) or lengths_of(begin) != lengths_of(goal):
        raise NoHolding()
    there = flat(begin)
    if not all([name is None or name in there for name in flat(goal)]):
        raise NoHolding()


def holds_unlike_names(thing):
    """Whether it is a holding of names and None alone, with no name twice."""
    if not is_holding(thing):
        return False
    items = [item for item in flat(thing) if item is not None]
    return all([is_name(item) for item in items]) and len(set(items)) == len(items)


def carries_between(begin, goal):
    """The carries of shuffled, for two holdings that it takes."""
    turns = [best_turn(row, aims) for row, aims in zip(begin, goal)]
    aims = {name: (belt, (at - turns[belt]) % len(goal[belt])) for name, (belt, at) in rooms_of(goal).items()}
    seated = {name: seat for name, seat in rooms_of(begin).items() if name in aims}
    seats = Seats(lengths_of(begin))
    if seated != aims:
        if None not in flat(goal):
            return None
        bring_all(seats, all_rooms(begin), seated, aims)
    for belt, turn in enumerate(turns):
        seats.turn(belt, turn)
    return tuple(seats.done)


def all_rooms(holding):
    return [(belt, at) for belt, row in enumerate(holding) for at in range(len(row))]


def rooms_of(holding):
    """The dict from the names in a holding to their rooms."""
    return {holding[belt][at]: (belt, at) for belt, at in all_rooms(holding) if holding[belt][at] is not None}


def best_turn(row, aims):
    """By how many rooms a belt moves on so that the most of its names come to where they are wanted."""
    many = len(row)
    return max(list(range(many)), key=lambda turn: many_home(row[many - turn:] + row[:many - turn], aims))


def many_home(row, aims):
    return len([name for name, aim in zip(row, aims) if name is not None and name == aim])


def bring_all(seats, rooms, seated, aims):
    """Bring each name from its seat to its aim; some seat is nobody's."""
    at = dict(seated)
    astray = [name for name in aims if at[name] != aims[name]]
    while astray:
        taken = list(at.values())
        free = [name for name in astray if aims[name] not in taken]
        # Where each aim is taken the names stand in rings: one steps aside.
        name = free[0] if free else astray[0]
        aim = aims[name] if free else [room for room in rooms if room not in taken][0]
        seats.bring(at[name], aim)
        at[name] = aim
        astray = [name for name in aims if at[name] != aims[name]]
