"""Refutations: runs on which a code reads what it shall not."""

from fullbelts.codes import MADE, flows
from fullbelts.kinds import is_number, is_tuple
from fullbelts.machines import room_number
from fullbelts.programs import made_by, reads_of
from fullbelts.tables import lacking, settled
from fullbelts.webs import route_to, stands, ways_into


def refutation(code):
    """A route and the number of a reading that is not right behind it, or None."""
    lacks = lacking(code, settled(code))
    if not lacks:
        return None
    place, index = lacks[0]
    name = reads_of(code.program.steps[place])[index]
    room = room_number(code.machine.belts, code.rooms[place][index])
    return (lost_route(code, place, room, name), index)


def lost_route(code, place, room, name):
    """A route from 0 to the place on which the room has not the last result of the name, or None.

    Gone back from the room to the rooms that its item may come from. No route
    back to 0 need be followed to its end: without faults the name is made on it.
    """
    steps = code.program.steps
    flow = flows(code)
    into = ways_into(code.program)
    onward = {(place, room): None}
    found = [(place, room)]
    done = 0
    while done < len(found):
        at = found[done]
        done += 1
        for begin, number in into[at[0]]:
            source = flow[(begin, number)][at[1]]
            # Another name's new result, or a result that the make outdates.
            if (source == MADE) != (made_by(steps[begin]) == name):
                return route_to(code.program, begin) + (number,) + followed(onward, at)
            if source != MADE and (begin, source) not in onward:
                onward[(begin, source)] = (number, at)
                found.append((begin, source))
    return None


def followed(onward, at):
    """The route along the entries (number, what comes behind it)."""
    numbers = []
    entry = onward[at]
    while entry is not None:
        numbers.append(entry[0])
        entry = onward[entry[1]]
    return tuple(numbers)


def is_refutation(code, thing):
    """Whether the thing is a refutation of the code."""
    if not is_tuple(thing, 2, 2):
        return False
    route, index = thing
    places = stands(code.program, 0, route)
    if places is None:
        return False
    names = reads_of(code.program.steps[places[-1]])
    if not is_number(index, len(names)):
        return False
    has, items = gone(code, places, route)
    room = code.rooms[places[-1]][index]
    return items[room_number(code.machine.belts, room)] != has[names[index]]


def gone(code, places, route):
    """What the names have and what the rooms hold behind a route that stands at the places."""
    flow = flows(code)
    has = {}
    items = [None] * code.machine.size
    # The number of the step tells its result as well as the result's own number.
    for result, (place, number) in enumerate(zip(places, route)):
        name = made_by(code.program.steps[place])
        if name is not None:
            has[name] = result
        items = [result if source == MADE else items[source] for source in flow[(place, number)]]
    return has, items
