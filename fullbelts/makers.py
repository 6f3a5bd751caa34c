"""Right codes, made for a program and a machine, and the seatings that they have."""

from fullbelts.errors import NoSeating, NotRight, TooSmall
from fullbelts.homes import code_of, homes_for
from fullbelts.machines import Machine
from fullbelts.pieces import check_size, full_names
from fullbelts.seatings import is_seating, seating
from fullbelts.tables import table
from fullbelts.wants import need


def code_for(program, machine):
    """A right code for the program and the machine, or None."""
    least = need(program)
    if machine.size < least:
        return None
    found = {} if machine.size > least else seating(program, machine)
    return None if found is None else seated_code(program, machine, found)


def code_with(program, machine, thing):
    """A right code whose table has rounds alike to those of a seating."""
    if not is_seating(program, machine, thing):
        raise NoSeating()
    return seated_code(program, machine, thing)


def seated_code(program, machine, seated):
    """A right code with this seating, which is {} where there are more rooms than are needed."""
    homes, belts = homes_for(program, machine, seated)
    return code_of(program, machine, homes, belts)


def spare_code(program, belts):
    """A right code for the machine of these belts, which has more rooms than are needed."""
    machine = Machine(belts)
    least = need(program) + 1
    if machine.size < least:
        raise TooSmall(least)
    return seated_code(program, machine, {})


def seats(code):
    """The seating that the table of a right code has."""
    check_size(code.program, code.machine)
    found = table(code)
    if found is None:
        raise NotRight()
    return {place: found[place] for place in full_names(code.program)}
