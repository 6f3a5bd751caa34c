"""Tables: which names' last results the rooms have on every run."""

from fullbelts.codes import MADE, flat, flows, has_keys, shaped
from fullbelts.kinds import is_name
from fullbelts.machines import is_holding, lengths_of, room_number
from fullbelts.programs import goals_of, made_by, reads_of
from fullbelts.webs import reached


def table(code):
    """The table of a right code, None for another one."""
    items = settled(code)
    if lacking(code, items):
        return None
    return {place: shaped(code.machine, items[place]) for place in items}


def is_table(code, thing):
    """Whether the thing is a table of the code."""
    places = reached(code.program)
    if not has_keys(thing, places) or not all([holds_names(code.machine, thing[place]) for place in places]):
        return False
    items = {place: flat(thing[place]) for place in places}
    if not all([item is None for item in items[0]]) or lacking(code, items):
        return False
    flow = flows(code)
    return all([is_kept(code.program, flow, items, place) for place in places])


def holds_names(machine, thing):
    """Whether it is a holding of the machine, of names and None."""
    if not is_holding(thing) or lengths_of(thing) != machine.belts:
        return False
    return all([item is None or is_name(item) for item in flat(thing)])


def is_kept(program, flow, items, place):
    """Whether on all ways of the place what the goal's rooms shall hold comes there."""
    step = program.steps[place]
    for number, ahead in enumerate(goals_of(step)):
        come = passed(step, flow[(place, number)], items[place])
        if not all([item is None or item == there for item, there in zip(items[ahead], come)]):
            return False
    return True


def passed(step, flow, items):
    """What the rooms hold behind a way, where these items are held ahead of its step."""
    name = made_by(step)
    # A room with an elder result of the made name has not its last one any more.
    kept = [None if item == name else item for item in items]
    return [name if source == MADE else kept[source] for source in flow]


def settled(code):
    """For each reached place the names whose last results its rooms have on each run that comes there.

    Rooms hold a name or None, in a row. Each room's item comes from one room
    of the place ahead, so that what all ways to a place agree in is what all
    runs to it agree in.
    """
    steps = code.program.steps
    flow = flows(code)
    found = {0: [None] * code.machine.size}
    rest = [0]
    while rest:
        place = rest.pop()
        for number, ahead in enumerate(goals_of(steps[place])):
            come = passed(steps[place], flow[(place, number)], found[place])
            if ahead in found:
                come = [item if item == there else None for item, there in zip(come, found[ahead])]
            if ahead not in found or come != found[ahead]:
                found[ahead] = come
                rest.append(ahead)
    return found


def lacking(code, items):
    """The ascending list of the readings (place, index) of reached places whose rooms do not hold the names."""
    lengths = code.machine.belts
    rooms = code.rooms
    found = []
    for place in sorted(items):
        for index, name in enumerate(reads_of(code.program.steps[place])):
            if items[place][room_number(lengths, rooms[place][index])] != name:
                found.append((place, index))
    return found
