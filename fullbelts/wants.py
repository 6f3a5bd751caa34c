"""Names that are wanted, and the room that this needs."""

from fullbelts.errors import NoPlace
from fullbelts.kinds import is_number
from fullbelts.programs import made_by, names_of, reads_of
from fullbelts.webs import (
    arrivals, check_place_and_name, leaves_no_make, reached, stands, traced, ways_into)


def wanting(program, into, name):
    """The places at which the name is wanted, as the keys of a dict.

    Gone back from the places that read the name; into is ways_into(program).
    """
    found = {}
    rest = [place for place in into if name in reads_of(program.steps[place])]
    while rest:
        place = rest.pop()
        if place not in found:
            found[place] = True
            rest.extend([begin for begin, _ in into[place] if made_by(program.steps[begin]) != name])
    return found


def wanted(program):
    """For each place the ascending tuple of the names that are wanted there."""
    into = ways_into(program)
    wants = [[] for _ in program.steps]
    for name in names_of(program.steps):
        for place in wanting(program, into, name):
            wants[place].append(name)
    return [tuple(names) for names in wants]


def want_route(program, place, name):
    """A route that shows that the name is wanted at the place, or None."""
    check_place_and_name(program, place, name)
    if place not in reached(program):
        return None
    came = arrivals(program, place, name)
    for end in came:
        if name in reads_of(program.steps[end]):
            return traced(came, end)
    return None


def is_want_route(program, place, name, thing):
    """Whether the thing is a route that shows that the name is wanted at the place."""
    check_place_and_name(program, place, name)
    places = stands(program, place, thing)
    if places is None or place not in reached(program):
        return False
    return name in reads_of(program.steps[places[-1]]) and leaves_no_make(program, places, name)


def load_at(program, wants, place):
    """The load of a reached place; wants is wanted(program)."""
    step = program.steps[place]
    many = len(wants[place])
    if step[0] != "make":
        return many
    ahead = wants[step[3]]
    # A result that nobody wants takes a room at its make all the same.
    return max(many, len(ahead) if step[1] in ahead else len(ahead) + 1)


def load(program, place):
    """The load of a reached place."""
    if not is_number(place, len(program.steps)) or place not in reached(program):
        raise NoPlace()
    return load_at(program, wanted(program), place)


def need(program):
    """The greatest load."""
    wants = wanted(program)
    return max([load_at(program, wants, place) for place in reached(program)])
