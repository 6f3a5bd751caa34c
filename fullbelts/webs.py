"""Ways and routes of a program, and the faults that routes show."""

from fullbelts.errors import NoName, NoPlace, NoRoute, NoWay
from fullbelts.kinds import is_name, is_number, is_tuple
from fullbelts.programs import goals_of, made_by, names_of, reads_of

# No step makes a name of no letters: with it no place is barred.
NO_NAME = ""


def is_way(program, thing):
    if not is_tuple(thing, 2, 2) or not is_number(thing[0], len(program.steps)):
        return False
    return is_number(thing[1], len(goals_of(program.steps[thing[0]])))


def goal(program, way):
    """The goal of a way."""
    if not is_way(program, way):
        raise NoWay()
    return goals_of(program.steps[way[0]])[way[1]]


def check_place(program, place):
    if not is_number(place, len(program.steps)):
        raise NoPlace()


def check_place_and_name(program, place, name):
    check_place(program, place)
    if not is_name(name):
        raise NoName(name)


def stands(program, place, thing):
    """The places at which a route stands, the last one included; None for what is no route."""
    if not isinstance(thing, tuple):
        return None
    places = [place]
    for number in thing:
        ahead = goals_of(program.steps[places[-1]])
        if not is_number(number, len(ahead)):
            return None
        places.append(ahead[number])
    return places


def leaves_no_make(program, places, name):
    """Whether a route that stands at these places leaves no place that makes the name."""
    return name not in [made_by(program.steps[place]) for place in places[:-1]]


def led(program, place, route):
    """The place to which a route from the place leads."""
    check_place(program, place)
    places = stands(program, place, route)
    if places is None:
        raise NoRoute()
    return places[-1]


def arrivals(program, start, name):
    """The places to which routes from the start lead that leave no place that makes the name.

    A dict to the last way of the least of the shortest such routes, None for
    the start; its keys stand in the order of these routes, shorter ones first.
    """
    came = {start: None}
    found = [start]
    done = 0
    while done < len(found):
        place = found[done]
        done += 1
        if made_by(program.steps[place]) != name:
            for number, ahead in enumerate(goals_of(program.steps[place])):
                if ahead not in came:
                    came[ahead] = (place, number)
                    found.append(ahead)
    return came


def traced(came, place):
    """The route of the arrivals that leads to the place."""
    numbers = []
    at = place
    while came[at] is not None:
        at, number = came[at]
        numbers.append(number)
    return tuple(numbers[::-1])


def reached(program):
    """The ascending list of the places that are reached."""
    return sorted(arrivals(program, 0, NO_NAME))


def route_to(program, place):
    """The least of the shortest routes from 0 to the place, or None."""
    check_place(program, place)
    came = arrivals(program, 0, NO_NAME)
    return traced(came, place) if place in came else None


def ways_into(program):
    """For each reached place the list of the ways of reached places that lead to it."""
    places = reached(program)
    into = {place: [] for place in places}
    for place in places:
        for number, ahead in enumerate(goals_of(program.steps[place])):
            into[ahead].append((place, number))
    return into


def faults(program):
    """The ascending list of the faults."""
    found = []
    for name in names_of(program.steps):
        came = arrivals(program, 0, name)
        found.extend([(place, name) for place in came if name in reads_of(program.steps[place])])
    return sorted(found)


def fault_route(program, place, name):
    """A route that shows the fault, or None if the pair is none."""
    check_place_and_name(program, place, name)
    came = arrivals(program, 0, name)
    if place not in came or name not in reads_of(program.steps[place]):
        return None
    return traced(came, place)


def is_fault_route(program, place, name, thing):
    """Whether the thing is a route that shows the fault."""
    check_place_and_name(program, place, name)
    places = stands(program, 0, thing)
    if places is None or places[-1] != place:
        return False
    return name in reads_of(program.steps[place]) and leaves_no_make(program, places, name)
