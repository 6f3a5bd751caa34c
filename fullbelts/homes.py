"""Homes: what a code's rooms hold of the wanted names at each reached place; and the code that they make."""

from fullbelts.codes import Code, shaped
from fullbelts.machines import pushed, room_number
from fullbelts.programs import goals_of, made_by, reads_of
from fullbelts.shuffles import carries_between, rooms_of
from fullbelts.wants import wanted
from fullbelts.webs import reached

# Where a home has a room to spare it is the last one of this belt: there makes put in.
SPARE_BELT = 0

# What is read at a place that is not reached has a room in a code, too, whichever it is.
ANY_ROOM = (0, 0)


def opened(rounds, name):
    """The rounds turned so that a name is in the last room of its belt, and this belt."""
    belt = [number for number, row in enumerate(rounds) if name in row][0]
    at = rounds[belt].index(name) + 1
    row = rounds[belt][at:] + rounds[belt][:at]
    return rounds[:belt] + (row,) + rounds[belt + 1:], belt


def without(holding, name):
    return tuple([tuple([None if item == name else item for item in row]) for row in holding])


def behind_step(step, holding, belt):
    """What the rooms hold of the last results behind a step that puts in at the belt if it is a make."""
    made = made_by(step)
    return holding if made is None else pushed(without(holding, made), belt, made)


def left_name(made, names, names_ahead):
    """The first of the names whose result is wanted no more when a make is done."""
    return [name for name in names if name == made or name not in names_ahead][0]


def homes_for(program, machine, seats):
    """The dicts from the reached places to their homes, and to the belts where their makes put in.

    seats has rounds of the names for each place at which as many are wanted as
    the machine has rooms, such that full ways only turn them.
    """
    wants = wanted(program)
    homes = {}
    belts = {}
    for place in reached(program):
        homes[place], belts[place] = home_at(program.steps[place], machine, seats, wants, place)
    return homes, belts


def home_at(step, machine, seats, wants, place):
    """The home of the place, and the belt where its make puts in without loss of a name that is wanted ahead."""
    made = made_by(step)
    if place in seats:
        if made is None:
            return seats[place], SPARE_BELT
        return opened(seats[place], left_name(made, wants[place], wants[step[3]]))
    if made is not None and step[3] in seats:
        # All other names that are wanted ahead must be in their seats already.
        rounds, belt = opened(seats[step[3]], made)
        return without(rounds, made), belt
    return spaced(machine, wants[place]), SPARE_BELT


def spaced(machine, names):
    """The holding of names, fewer than the rooms, with the room to spare where makes need it."""
    spare = room_number(machine.belts, (SPARE_BELT, machine.belts[SPARE_BELT] - 1))
    items = list(names) + [None] * (machine.size - 1 - len(names))
    return shaped(machine, items[:spare] + [None] + items[spare:])


def code_of(program, machine, homes, belts):
    """The code that keeps the homes; the carries from each to the next ones are there."""
    rooms = {}
    put_in = {}
    carries = {}
    for place, step in enumerate(program.steps):
        if reads_of(step):
            there = rooms_of(homes[place]) if place in homes else {}
            rooms[place] = tuple([there.get(name, ANY_ROOM) for name in reads_of(step)])
        if step[0] == "make":
            put_in[place] = belts.get(place, SPARE_BELT)
        if place in homes:
            begin = behind_step(step, homes[place], belts[place])
            for number, ahead in enumerate(goals_of(step)):
                carries[(place, number)] = carries_between(begin, homes[ahead])
    return Code(program, machine, rooms, put_in, carries)
