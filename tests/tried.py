"""Whether any code is right, tried without the main fact: by all that the rooms may hold at each place."""

from itertools import product

from reckoning import carry, holding_of, passed_in, rooms_of, rows_of
from samples import all_wants, goals, reached_places, reads

REACHES = {}


def reach(machine, holding):
    """All holdings to which carries lead."""
    key = (machine.belts, holding)
    if key not in REACHES:
        found, rest = {holding}, [holding]
        while rest:
            at = rest.pop()
            for room, belt in product(rooms_of(machine), range(len(machine.belts))):
                rows = rows_of(at)
                carry(rows, [(room, belt)])
                if holding_of(rows) not in found:
                    found.add(holding_of(rows))
                    rest.append(holding_of(rows))
        REACHES[key] = found
    return REACHES[key]


def holds(holding, other):
    """Whether the one holds all that the other one does, in the same rooms."""
    return all(item in (None, there) for row, rows in zip(other, holding) for item, there in zip(row, rows))


def may_hold(program, machine, wants, place):
    """The holdings of names that are wanted at the place that have all that it reads."""
    size = machine.size
    if place == 0:
        words = [(None,) * size]
    else:
        words = product((None,) + wants[place], repeat=size)
    found = []
    for row in words:
        if set(reads(program.steps[place])) <= set(row):
            rows, at = [], 0
            for length in machine.belts:
                rows.append(tuple(row[at:at + length]))
                at += length
            found.append(tuple(rows))
    return found


def follows(machine, step, holding, ahead):
    """Whether some belt and some carries lead from the holding at the step to the one ahead."""
    behind = [passed_in(step, holding, belt) for belt in range(len(machine.belts))] if step[0] == "make" else [holding]
    return any(holds(found, ahead) for begin in behind for found in reach(machine, begin))


def some_code_is_right(program, machine):
    """Whether holdings can be given to all reached places that follow each other on all ways."""
    wants, places = all_wants(program), reached_places(program)
    may = {place: may_hold(program, machine, wants, place) for place in places}
    ways = [(place, ahead) for place in places for ahead in set(goals(program.steps[place]))]
    pairs = {(begin, end): {(one, other) for one in may[begin] for other in may[end]
                            if follows(machine, program.steps[begin], one, other)} for begin, end in ways}
    return is_given(may, pairs)


def narrowed(may, pairs):
    """What each place may hold, without what finds nothing at the other end of a way."""
    may = dict(may)
    while True:
        many = sum(map(len, may.values()))
        for (begin, end), fitting in pairs.items():
            there, here = set(may[end]), set(may[begin])
            firsts = {one for one, other in fitting if other in there}
            may[begin] = [one for one in may[begin] if one in firsts]
            lasts = {other for one, other in fitting if one in here}
            may[end] = [other for other in may[end] if other in lasts]
            if begin == end:
                may[begin] = [one for one in may[begin] if (one, one) in fitting]
        if sum(map(len, may.values())) == many:
            return may


def is_given(may, pairs):
    may = narrowed(may, pairs)
    if not all(may.values()):
        return False
    open_places = [place for place in may if len(may[place]) > 1]
    if not open_places:
        return True
    place = min(open_places, key=lambda one: len(may[one]))
    return any(is_given({**may, place: [one]}, pairs) for one in may[place])
