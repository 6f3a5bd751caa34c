"""The fewest carries that lead names to the rooms in which a goal has them."""

from fullbelts.codes import flat
from fullbelts.errors import TooLarge
from fullbelts.machines import lengths_of, pushed
from fullbelts.shuffles import all_rooms, check_holdings

MOST_ROOMS = 5


def least_carries(begin, goal):
    """The least number of carries that shuffled may tell, or None."""
    carries = shortest(begin, goal)
    return None if carries is None else len(carries)


def shortest(begin, goal):
    """Carries that shuffled may tell, as few as possible, or None."""
    check_holdings(begin, goal)
    if sum(lengths_of(begin)) > MOST_ROOMS:
        raise TooLarge(MOST_ROOMS)
    names = [name for name in flat(goal) if name is not None]
    # Names that the goal has not are nothing: so fewer holdings are unlike.
    first = tuple([tuple([name if name in names else None for name in row]) for row in begin])
    came = {first: None}
    found = [first]
    done = 0
    while done < len(found):
        holding = found[done]
        done += 1
        if is_home(holding, goal):
            return traced(came, holding)
        for carry, behind in carried_on(holding):
            # What has lost a name comes to no goal any more.
            if behind not in came and has_all(behind, names):
                came[behind] = (holding, carry)
                found.append(behind)
    return None


def is_home(holding, goal):
    """Whether each name of the goal is where the goal has it."""
    return all([aim is None or name == aim for name, aim in zip(flat(holding), flat(goal))])


def has_all(holding, names):
    there = flat(holding)
    return all([name in there for name in names])


def carried_on(holding):
    """The list of the pairs of a carry and the holding behind it."""
    return [((room, belt), pushed(holding, belt, holding[room[0]][room[1]]))
            for room in all_rooms(holding) for belt in range(len(holding))]


def traced(came, holding):
    """The carries that led to the holding."""
    carries = []
    at = holding
    while came[at] is not None:
        at, carry = came[at]
        carries.append(carry)
    return tuple(carries[::-1])
