"""Carries reckoned slowly and plainly: what they lead to, and with how few."""

from itertools import permutations, product

from reckoning import carry, holding_of, rooms_of, rows_of
from samples import is_name

LEADS = {}
DISTANCES = {}


class Belts:
    """What rooms_of asks of a machine."""

    def __init__(self, belts):
        self.belts = belts


def lengths(holding):
    return tuple([len(row) for row in holding])


def rooms(belts):
    return rooms_of(Belts(belts))


def behind(holding, carries):
    rows = rows_of(holding)
    carry(rows, carries)
    return holding_of(rows)


def leads(holding):
    """All pairs of a carry and the holding behind it."""
    if holding not in LEADS:
        belts = lengths(holding)
        LEADS[holding] = [((room, belt), behind(holding, [(room, belt)]))
                          for room in rooms(belts) for belt in range(len(belts))]
    return LEADS[holding]


def distances(begin):
    """The dict from all holdings to which carries lead to the least number of them."""
    if begin not in DISTANCES:
        found, row = {begin: 0}, [begin]
        while row:
            ahead = []
            for holding in row:
                for _, other in leads(holding):
                    if other not in found:
                        found[other] = found[holding] + 1
                        ahead.append(other)
            row = ahead
        DISTANCES[begin] = found
    return DISTANCES[begin]


def is_there(holding, goal):
    """Whether each name of the goal is where the goal has it."""
    return all(aim in (None, item) for row, aims in zip(holding, goal) for item, aim in zip(row, aims))


def slow_least(begin, goal):
    """The least number of carries, or None."""
    return min([many for holding, many in distances(begin).items() if is_there(holding, goal)], default=None)


def split(items, belts):
    """The holding of items that stand in a row."""
    found, items = [], list(items)
    for length in belts:
        found.append(tuple(items[:length]))
        items = items[length:]
    return tuple(found)


def begins(belts):
    """Holdings of unlike names and None, one for each choice of the rooms that hold something."""
    names = ("a", "b", "c", "d", "e", "f")
    for chosen in product((False, True), repeat=sum(belts)):
        words = iter(names)
        yield split([next(words) if there else None for there in chosen], belts)


def goals_for(begin):
    """All holdings of names of begin and None, no name twice."""
    names = [item for row in begin for item in row if item is not None]
    size = sum(lengths(begin))
    found = set()
    for row in permutations(names + [None] * size, size):
        found.add(row)
    return sorted([split(row, lengths(begin)) for row in found], key=str)


def is_lengths(belts):
    return 1 <= len(belts) <= 6 and all(1 <= length <= 8 for length in belts) and sum(belts) <= 12


def is_pair(begin, goal):
    """Whether shuffled takes them."""
    for thing in (begin, goal):
        if type(thing) is not tuple or any(type(row) is not tuple for row in thing) or not is_lengths(lengths(thing)):
            return False
        items = [item for row in thing for item in row if item is not None]
        if not all(is_name(item) for item in items) or len(set(items)) < len(items):
            return False
    there = [item for row in begin for item in row]
    return lengths(begin) == lengths(goal) and all(item in there for row in goal for item in row if item is not None)


def is_carries(begin, thing):
    """Whether it is a tuple of at most 1000 carries."""
    if type(thing) is not tuple or len(thing) > 1000:
        return False
    belts = lengths(begin)
    for one in thing:
        if type(one) is not tuple or len(one) != 2 or type(one[0]) is not tuple or one[0] not in rooms(belts):
            return False
        if [type(part) for part in (*one[0], one[1])] != [int] * 3 or one[1] not in range(len(belts)):
            return False
    return True


def is_shuffle(begin, goal, thing):
    """Whether these are carries that lead from begin to the goal."""
    return is_carries(begin, thing) and is_there(behind(begin, thing), goal)


# Pairs that are not so: the one thing is wrong, or the other one, or both together.
ONE = (("x", "y"), ("z",))
WRONG_PAIRS = [
    ((("x", "x"), (None,)), (("x", None), (None,))), ((("x", None), ("x",)), ((None, None), (None,))),
    (ONE, (("x", "x"), (None,))), (ONE, (("x", None), ("x",))), (ONE, (("t", None), (None,))),
    (ONE, (("x", "y"), ("t",))), (((None, None), (None,)), (("x", None), (None,))), (ONE, (("x", "y", "z"),)),
    (ONE, (("z",), ("x", "y"))), (ONE, (("x", "y"),)), (ONE, ((None, None), (None,), (None,))),
    (((1, "y"), ("z",)), ((None, "y"), ("z",))), (ONE, ((0, None), (None,))), ((("x", True), ("z",)), ONE),
    (((1, None), (None,)), ((1, None), (None,))), ((("X", "y"), ("z",)), (("y", None), (None,))),
    ((("", "y"), ("z",)), (("y", None), (None,))), ((("abcdefghi", "y"), ("z",)), (("y", None), (None,))),
    (ONE, ["x"]), (ONE, [("x", "y"), ("z",)]), (ONE, (["x", "y"], ("z",))), ([("x", "y"), ("z",)], ONE),
    ((["x", "y"], ("z",)), ONE), (ONE, None), (None, ONE), (ONE, ()), ((), ONE), ((), ()), (None, None),
    (ONE, (("x", b"y"), ("z",))), (ONE, (("x", ("y",)), ("z",))), (((None,) * 9,), ((None,) * 9,)),
    (((None,),) * 7, ((None,),) * 7), (((None,) * 7, (None,) * 6), ((None,) * 7, (None,) * 6)),
    (((), (None,)), ((), (None,)))]
