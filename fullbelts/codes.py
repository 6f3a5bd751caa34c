"""Codes: where a program's results are kept in a machine."""

from fullbelts.errors import BadCode
from fullbelts.kinds import is_number, is_tuple
from fullbelts.machines import are_carries, is_room, moved, pushed
from fullbelts.programs import goals_of, reads_of
from fullbelts.webs import is_way

# Where a flow tells it, the item comes from no room: the step made it.
MADE = -1


class Code:
    """The rooms of the readings, the belts of the makes and the carries on the ways."""

    def __init__(self, program, machine, rooms, belts, carries):
        if not rooms_fit(program, machine, rooms):
            raise BadCode("rooms")
        if not belts_fit(program, machine, belts):
            raise BadCode("belts")
        if not carries_fit(program, machine, carries):
            raise BadCode("carries")
        self.program = program
        self.machine = machine
        self._rooms = {place: rooms[place] for place in rooms}
        self._belts = {place: belts[place] for place in belts}
        self._carries = {way: carries[way] for way in carries if carries[way]}

    @property
    def rooms(self):
        """The dict from the places that read something to the rooms of their readings."""
        return {place: self._rooms[place] for place in self._rooms}

    @property
    def belts(self):
        """The dict from the places of makes to their belts."""
        return {place: self._belts[place] for place in self._belts}

    @property
    def carries(self):
        """The dict from the ways that have carries to them."""
        return {way: self._carries[way] for way in self._carries}

    def __eq__(self, other):
        if not isinstance(other, Code) or self.program != other.program or self.machine != other.machine:
            return False
        return self.rooms == other.rooms and self.belts == other.belts and self.carries == other.carries


def has_keys(thing, keys):
    """Whether it is a dict with just these keys."""
    if not isinstance(thing, dict) or len(thing) != len(keys):
        return False
    return all([key in thing for key in keys])


def rooms_fit(program, machine, thing):
    many = {place: len(reads_of(step)) for place, step in enumerate(program.steps) if reads_of(step)}
    if not has_keys(thing, many):
        return False
    return all([are_rooms(machine, many[place], thing[place]) for place in many])


def are_rooms(machine, many, thing):
    return is_tuple(thing, many, many) and all([is_room(machine.belts, room) for room in thing])


def belts_fit(program, machine, thing):
    places = [place for place, step in enumerate(program.steps) if step[0] == "make"]
    if not has_keys(thing, places):
        return False
    return all([is_number(thing[place], len(machine.belts)) for place in places])


def carries_fit(program, machine, thing):
    if not isinstance(thing, dict) or not all([is_way(program, way) for way in thing]):
        return False
    return all([isinstance(row, tuple) and are_carries(machine.belts, row) for row in thing.values()])


def flow_on(machine, belt, carries):
    """The tuple that tells from where each room behind a way has its item.

    Rooms are told by their numbers, counted belt by belt; MADE stands for what
    the step made and put in at the belt, which is None if it makes nothing. So
    a way that is gone often has its carries done only once.
    """
    holding = shaped(machine, list(range(machine.size)))
    if belt is not None:
        holding = pushed(holding, belt, MADE)
    return flat(moved(holding, carries))


def flows(code):
    """For each way what flow_on tells of it."""
    belts = code.belts
    carries = code.carries
    found = {}
    for place, step in enumerate(code.program.steps):
        for number in range(len(goals_of(step))):
            found[(place, number)] = flow_on(code.machine, belts.get(place), carries.get((place, number), ()))
    return found


def flat(holding):
    """The items of all rooms in a row, belt by belt."""
    return tuple([item for row in holding for item in row])


def shaped(machine, items):
    """The holding of items that stand in a row, belt by belt."""
    rows = []
    begin = 0
    for length in machine.belts:
        rows.append(tuple(items[begin:begin + length]))
        begin += length
    return tuple(rows)
