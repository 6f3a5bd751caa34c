"""All that hangs on full places, reckoned slowly and plainly, after the words of the document."""

from itertools import permutations, product

from samples import all_loads, all_wants, goals, raised, reached_places

# What is reckoned for a program is kept: nobody may change it.
KEPT = {}


def kept(call):
    def asked(program, *rest):
        key = (call.__name__, program.steps, *rest)
        if key not in KEPT:
            KEPT[key] = call(program, *rest)
        return KEPT[key]
    return asked


@kept
def slow_loads(program):
    return all_loads(program)


def slow_need(program):
    return max(slow_loads(program).values())


@kept
def slow_full(program):
    """The dict from the full places to the names that are wanted there."""
    wants, most = all_wants(program), slow_need(program)
    return {place: wants[place] for place in reached_places(program) if len(wants[place]) == most}


def slow_heirs(program, way):
    """The dict from names to heirs on a full way."""
    wants, step = all_wants(program), program.steps[way[0]]
    ahead = wants[goals(step)[way[1]]]
    made = step[1] if step[0] == "make" else None
    found = {name: name for name in wants[way[0]] if name in ahead and name != made}
    left = [name for name in wants[way[0]] if name not in found]
    assert len(left) == (made is not None)
    return {**found, **{name: made for name in left}}


@kept
def slow_moves(program):
    """The list of (triple, begin, end, what the names become) for all triples of walks."""
    full = slow_full(program)
    found = []
    for place in full:
        for number, ahead in enumerate(goals(program.steps[place])):
            if ahead in full:
                become = slow_heirs(program, (place, number))
                found.append(((place, number, True), place, ahead, become))
                found.append(((place, number, False), ahead, place, {new: old for old, new in become.items()}))
    return found


@kept
def slow_pieces(program):
    pairs = [(begin, end) for _, begin, end, _ in slow_moves(program)]
    parts = [{place} for place in slow_full(program)]
    for begin, end in pairs:
        joined = [part for part in parts if part & {begin, end}]
        parts = [part for part in parts if not part & {begin, end}] + [set().union(*joined)]
    return sorted(sorted(part) for part in parts)


def slow_walk(program, place, thing):
    """The pair of the end and the renaming of a walk from a full place; None if it is none."""
    if type(thing) is not tuple:
        return None
    moves = slow_moves(program)
    at, become = place, {name: name for name in slow_full(program)[place]}
    for triple in thing:
        if type(triple) is not tuple or [type(part) for part in triple] != [int, int, bool]:
            return None
        fitting = [move for move in moves if move[0] == triple and move[1] == at]
        if not fitting:
            return None
        become = {name: fitting[0][3][become[name]] for name in become}
        at = fitting[0][2]
    return at, become


@kept
def slow_renamings(program):
    """For each piece the list of the renamings of its rings, found by going on from each place with each row."""
    moves, full = slow_moves(program), slow_full(program)
    onward = {place: [(end, become) for _, begin, end, become in moves if begin == place] for place in full}
    answers = []
    for piece in slow_pieces(program):
        begin = (piece[0], full[piece[0]])
        found, rest = {begin}, [begin]
        while rest:
            place, row = rest.pop()
            for end, become in onward[place]:
                behind = (end, tuple([become[name] for name in row]))
                if behind not in found:
                    found.add(behind)
                    rest.append(behind)
        answers.append(sorted(row for place, row in found if place == piece[0]))
    return answers


def power(become, many):
    found = {name: name for name in become}
    for _ in range(many):
        found = {name: become[found[name]] for name in found}
    return found


def slow_lots(names, rows):
    dicts = [dict(zip(names, row)) for row in rows]
    left = {name: [become[name] == name for become in dicts] for name in names}
    groups = sorted({tuple([other for other in names if left[other] == left[name]]) for name in names})
    found = []
    for lot in groups:
        span = {len({become[name] for become in dicts}) for name in lot}
        kept = all(become[name] in lot for become in dicts for name in lot)
        on_lot = [{name: become[name] for name in lot} for become in dicts]
        single = kept and any(
            all(part in [power(one, many) for many in range(len(names) + 6)] for part in on_lot) for one in on_lot)
        found.append((lot, span, single))
    return found


def slow_deals(lots, lengths):
    """All deals, ascending."""
    found = []
    for thing in product(range(len(lots)), repeat=len(lengths)):
        sums = [sum(length for length, lot in zip(lengths, thing) if lot == number) for number in range(len(lots))]
        if sums == [len(names) for names, _, _ in lots] and all(
                length % lots[lot][1] == 0 for length, lot in zip(lengths, thing)):
            found.append(thing)
    return found


def alike(one, other):
    return any(one[at:] + one[:at] == other for at in range(len(one)))


def split(row, lengths):
    rounds = []
    for length in lengths:
        rounds.append(tuple(row[:length]))
        row = row[length:]
    return tuple(rounds)


def all_rounds(names, lengths):
    """All tuples of rounds of the names, each from its least name on, ascending."""
    found = [split(row, lengths) for row in permutations(names)]
    return sorted(rounds for rounds in found if all(row[0] == min(row) for row in rounds))


def replaced(rounds, become):
    return tuple([tuple([become[name] for name in row]) for row in rounds])


def goes(rounds, become):
    return all(alike(one, other) for one, other in zip(rounds, replaced(rounds, become)))


def slow_fillings(names, lengths, rows):
    """All tuples of rounds that go with all the rows, ascending."""
    dicts = [dict(zip(names, row)) for row in rows]
    return [rounds for rounds in all_rounds(names, lengths) if all(goes(rounds, become) for become in dicts)]


def slow_is_seating(program, lengths, thing):
    full = slow_full(program)
    if type(thing) is not dict or len(thing) != len(full):
        return False
    for place, names in full.items():
        if place not in thing or not slow_are_rounds(lengths, names, thing[place]):
            return False
    return all(
        alike(one, other) for triple, begin, end, become in slow_moves(program) if triple[2]
        for one, other in zip(replaced(thing[begin], become), thing[end]))


def slow_are_rounds(lengths, names, thing):
    if type(thing) is not tuple or len(thing) != len(lengths):
        return False
    if not all(type(row) is tuple and len(row) == length for row, length in zip(thing, lengths)):
        return False
    items = [name for row in thing for name in row]
    return all(type(name) is str for name in items) and sorted(items) == list(names)


@kept
def slow_enough(program, lengths):
    """For a machine whose size is the need."""
    full = slow_full(program)
    return all(slow_fillings(full[piece[0]], lengths, rows)
               for piece, rows in zip(slow_pieces(program), slow_renamings(program)))


def slow_is_denial(program, machine, thing):
    if type(thing) is not tuple or len(thing) not in (2, 3) or type(thing[0]) is not str:
        return False
    if len(thing) == 2:
        load = slow_loads(program).get(thing[1], 0) if type(thing[1]) is int else 0
        return thing[0] == "place" and load > machine.size
    kind, place, walks = thing
    if kind != "rings" or machine.size != slow_need(program) or type(place) is not int:
        return False
    full = slow_full(program)
    if place not in full or type(walks) is not tuple or len(walks) > 8:
        return False
    found = [slow_walk(program, place, walk) for walk in walks]
    if any(pair is None or pair[0] != place for pair in found):
        return False
    return not any(all(goes(rounds, become) for _, become in found)
                   for rounds in all_rounds(full[place], machine.belts))


def shapes_of_size(size, most=8):
    """All descending tuples of lengths with this sum, as they are the belts of machines."""
    if size == 0:
        return [()]
    found = [(first, *rest) for first in range(1, min(size, most) + 1) for rest in shapes_of_size(size - first, first)]
    return sorted(shape for shape in found if len(shape) <= 6)


def belts_of_size(size):
    """All lengths of belts with this sum, in all orders."""
    return sorted({row for shape in shapes_of_size(size) for row in permutations(shape)})


def kind_raised(call, *arguments):
    """The class of the error of this call, or None."""
    error = raised(call, *arguments)
    return None if error is None else type(error)
