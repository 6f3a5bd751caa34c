"""Which belts are enough for a program, and which are enough wherever others are."""

from fullbelts.errors import OtherSize, TooLarge
from fullbelts.machines import LONGEST, MOST_BELTS
from fullbelts.programs import Program
from fullbelts.seatings import has_seating
from fullbelts.turns import all_turns
from fullbelts.wants import need

MOST_SIZE = 7
NAMES = ("a", "b", "c", "d", "e", "f", "g")
# Where a program of parting keeps the first name of a belt while it turns the others.
SPARE = "t"


def shapes(program):
    """The ascending list of the shapes of as many rooms as are needed that are enough."""
    found = all_turns(program)
    return [shape for shape in shapes_of(need(program), LONGEST, MOST_BELTS) if has_seating(found, shape)]


def shapes_of(size, longest, most):
    """The ascending list of the descending tuples of at most so many lengths, none above longest, with this sum."""
    if size == 0:
        return [()]
    if most == 0:
        return []
    return [(length,) + tail for length in range(1, min(size, longest) + 1)
            for tail in shapes_of(size - length, length, most - 1)]


def fewest_belts(program):
    """The first of the shapes with as few belts as possible, or None."""
    return min(shapes(program), key=len, default=None)


def check_sizes(one, other):
    if one.size != other.size:
        raise OtherSize()
    if one.size > MOST_SIZE:
        raise TooLarge(MOST_SIZE)


def over(one, other):
    """Whether the one machine is enough for each program, of their size as its need, for which the other one is."""
    check_sizes(one, other)
    return has_long_belts(one, other)


def has_long_belts(one, other):
    """Whether the one has each belt of the other one that is no plain room; what is left are plain rooms."""
    rest = list(one.belts)
    for length in other.belts:
        if length > 1:
            if length not in rest:
                return False
            rest.remove(length)
    return True


def parting(one, other):
    """A program of their size as its need for which the other machine is enough, the one is not, or None."""
    check_sizes(one, other)
    if has_long_belts(one, other):
        return None
    return turning_program(other.belts)


def turning_program(lengths):
    """A program that turns the names of each belt in a ring of its own, and leaves those in plain rooms.

    So each long belt's names stand on a belt of just its length, wherever there is a seating.
    """
    names = NAMES[:sum(lengths)]
    steps = [("make", name, (), place + 1) for place, name in enumerate(names)]
    begin = 0
    for length in lengths:
        if length > 1:
            steps.extend(turning_steps(names[begin:begin + length], len(steps)))
        begin += length
    steps.extend([("tell", name, place + 1) for place, name in enumerate(names, start=len(steps))])
    return Program(tuple(steps + [("end",)]))


def turning_steps(names, place):
    """A test at the place, and behind it makes that give each name the next one's result and lead back to it."""
    makes = list(zip((SPARE,) + names, names + (SPARE,)))
    steps = [("test", names[0], (place + 1, place + 1 + len(makes)))]
    steps.extend([("make", name, (read,), at) for at, (name, read) in enumerate(makes, start=place + 2)])
    steps[-1] = steps[-1][:3] + (place,)
    return steps
