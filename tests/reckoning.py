"""What codes do, reckoned slowly and plainly, after the words of the document."""

import random
from itertools import product

from fullbelts.codes import Code
from fullbelts.machines import Machine
from samples import faultless_programs, goals, is_name, places_of_route, reached_places, reads


def put_in(rows, belt, thing):
    """Put a thing in at a belt, in rows that are lists."""
    rows[belt].insert(0, thing)
    rows[belt].pop()


def carry(rows, carries):
    for (belt, place), onto in carries:
        put_in(rows, onto, rows[belt][place])


def rows_of(holding):
    return [list(row) for row in holding]


def holding_of(rows):
    return tuple([tuple(row) for row in rows])


def nothing(machine):
    return tuple([(None,) * length for length in machine.belts])


def rooms_of(machine):
    return [(belt, place) for belt, length in enumerate(machine.belts) for place in range(length)]


def passed(code, way, holding):
    """What a holding of names becomes on a way, with None for results that their names have no more."""
    step = code.program.steps[way[0]]
    rows = rows_of(passed_in(step, holding, code.belts[way[0]]) if step[0] == "make" else holding)
    carry(rows, code.carries.get(way, ()))
    return holding_of(rows)


def passed_in(step, holding, belt):
    """What a holding of names becomes when a make puts its name in at the belt."""
    rows = [[None if item == step[1] else item for item in row] for row in holding]
    put_in(rows, belt, step[1])
    return holding_of(rows)


def states(code):
    """All pairs of a place and what the rooms may hold there: names with their last results, or None."""
    found = {(0, nothing(code.machine))}
    rest = list(found)
    while rest:
        place, holding = rest.pop()
        for number, ahead in enumerate(goals(code.program.steps[place])):
            state = (ahead, passed(code, (place, number), holding))
            if state not in found:
                found.add(state)
                rest.append(state)
    return found


def held(code):
    """For each reached place the holding of what the rooms hold on each run that comes there."""
    found = {}
    for place, holding in states(code):
        rows = found.setdefault(place, rows_of(holding))
        for belt, at in rooms_of(code.machine):
            if rows[belt][at] != holding[belt][at]:
                rows[belt][at] = None
    return {place: holding_of(rows) for place, rows in found.items()}


def is_right(code):
    for place, holding in states(code):
        for name, (belt, at) in zip(reads(code.program.steps[place]), code.rooms.get(place, ())):
            if holding[belt][at] != name:
                return False
    return True


def readings(code, route):
    """For each reading behind the route whether it is right; None if this is no route from 0."""
    places = places_of_route(code.program, 0, route)
    if places is None:
        return None
    rows, has = rows_of(nothing(code.machine)), {}
    for result, (place, number) in enumerate(zip(places, route)):
        step = code.program.steps[place]
        if step[0] == "make":
            has[step[1]] = ("result", result)
            put_in(rows, code.belts[place], has[step[1]])
        carry(rows, code.carries.get((place, number), ()))
    rooms = code.rooms.get(places[-1], ())
    return [rows[belt][at] == has[name]
            for name, (belt, at) in zip(reads(code.program.steps[places[-1]]), rooms)]


def refutes(code, thing):
    if type(thing) is not tuple or len(thing) != 2:
        return False
    right = readings(code, thing[0])
    if right is None or type(thing[1]) is not int or thing[1] not in range(len(right)):
        return False
    return not right[thing[1]]


def is_names(machine, thing):
    """Whether the thing is a holding of the machine, of names and None."""
    if type(thing) is not tuple or [type(row) for row in thing] != [tuple] * len(machine.belts):
        return False
    return tuple([len(row) for row in thing]) == machine.belts and all(
        item is None or is_name(item) for row in thing for item in row)


def fits_table(code, thing):
    """Whether the thing is a table."""
    there = reached_places(code.program)
    if type(thing) is not dict or set(thing) != set(there):
        return False
    if not all(is_names(code.machine, thing[place]) for place in there) or thing[0] != nothing(code.machine):
        return False
    for place in there:
        step = code.program.steps[place]
        if [thing[place][belt][at] for belt, at in code.rooms.get(place, ())] != list(reads(step)):
            return False
        for number, ahead in enumerate(goals(step)):
            come = passed(code, (place, number), thing[place])
            if any(thing[ahead][belt][at] not in (None, come[belt][at]) for belt, at in rooms_of(code.machine)):
                return False
    return True


def random_carries(rng, machine, most):
    rooms = rooms_of(machine)
    return tuple([(rng.choice(rooms), rng.randrange(len(machine.belts))) for _ in range(rng.randint(0, most))])


def ways(program):
    return [(place, number) for place, step in enumerate(program.steps) for number in range(len(goals(step)))]


def random_code(rng, program, machine):
    """A code whose belts and carries come as they will, and whose rooms are right where any are."""
    steps = program.steps
    rooms = {place: tuple([rng.choice(rooms_of(machine)) for _ in reads(step)])
             for place, step in enumerate(steps) if reads(step)}
    words = sorted({step[1] for step in steps if step[0] == "make"})
    plain = rng.randrange(2)
    belts = {place: words.index(step[1]) % len(machine.belts) if plain else rng.randrange(len(machine.belts))
             for place, step in enumerate(steps) if step[0] == "make"}
    most = rng.choice((0, 0, 1, 3))
    carries = {way: random_carries(rng, machine, most) for way in ways(program) if rng.randrange(2)}
    holdings = held(Code(program, machine, rooms, belts, carries))
    for place, holding in holdings.items():
        if place in rooms:
            rooms[place] = tuple([
                rng.choice([room for room in rooms_of(machine) if holding[room[0]][room[1]] == name] or [old])
                for name, old in zip(reads(steps[place]), rooms[place])])
    return Code(program, machine, rooms, belts, carries)


SHAPES = [belts for many in range(1, 5) for belts in product(range(1, 5), repeat=many) if sum(belts) <= 4]


def random_codes(many):
    rng = random.Random(many)
    return [random_code(rng, program, Machine(rng.choice(SHAPES))) for program in faultless_programs(many)]


def changed_code(rng, code):
    """The code with one part changed: a room, a belt, or the carries of a way."""
    rooms, belts, carries = code.rooms, code.belts, code.carries
    part = rng.randrange(3)
    if part == 0 and rooms:
        place = rng.choice(sorted(rooms))
        rooms[place] = tuple([rng.choice(rooms_of(code.machine)) for _ in rooms[place]])
    elif part == 1 and belts:
        belts[rng.choice(sorted(belts))] = rng.randrange(len(code.machine.belts))
    elif ways(code.program):
        carries[rng.choice(ways(code.program))] = random_carries(rng, code.machine, 3)
    return Code(code.program, code.machine, rooms, belts, carries)


def many_codes(many):
    """So many right and wrong codes, and as many that come of them by one change."""
    rng = random.Random(many + 1)
    codes = random_codes(many)
    return codes + [changed_code(rng, code) for code in codes]
