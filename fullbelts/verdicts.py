"""Whether a machine is enough for a program."""

from fullbelts.seatings import has_seating
from fullbelts.turns import all_turns
from fullbelts.wants import need


def enough(program, machine):
    """Whether some code for the program and the machine is right."""
    least = need(program)
    if machine.size != least:
        return machine.size > least
    return has_seating(all_turns(program), machine.belts)
