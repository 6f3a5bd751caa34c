"""How many tuples of rounds go with all rings of a piece, and which they are."""

from fullbelts.errors import NoNumber
from fullbelts.kinds import is_number
from fullbelts.pieces import check_size
from fullbelts.rounds import fillings
from fullbelts.turns import turns_of

MOST_INDEX = 10 ** 30


def many_seatings(program, machine, number):
    """How many tuples of rounds, each from its least name on, go with all rings of the piece's first place."""
    return len(seatings_of(program, machine, number))


def seating_at(program, machine, number, index):
    """The one with this number of these tuples in ascending order, or None."""
    found = seatings_of(program, machine, number)
    if not is_number(index, MOST_INDEX + 1):
        raise NoNumber()
    return found[index] if index < len(found) else None


def seatings_of(program, machine, number):
    """The ascending list of these tuples: names are so few that they can be told one by one."""
    check_size(program, machine)
    turns = turns_of(program, number)
    return fillings(turns.tree.names, machine.belts, turns.turns)
