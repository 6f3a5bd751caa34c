"""Denials: what shows that no code for a program and a machine is right."""

from fullbelts.errors import OtherSize
from fullbelts.kinds import is_number, is_tuple
from fullbelts.pieces import full_names, onwards
from fullbelts.rounds import are_turned, fillings, first_filling
from fullbelts.turns import all_turns
from fullbelts.walks import walked
from fullbelts.wants import load_at, need, wanted
from fullbelts.webs import reached

MOST_RINGS = 8


def denial(program, machine):
    """A denial of the program to the machine, or None."""
    least = need(program)
    if machine.size > least:
        raise OtherSize()
    if machine.size < least:
        return ("place", heavy_places(program, machine)[0])
    for turns in all_turns(program):
        tree = turns.tree
        if first_filling(tree.names, machine.belts, turns.turns) is None:
            rows = denying(tree.names, machine.belts, turns.renamings())
            return ("rings", tree.first, tuple([turns.ring(row) for row in rows]))
    return None


def heavy_places(program, machine):
    """The ascending list of the reached places whose load is greater than the machine's size."""
    wants = wanted(program)
    return [place for place in reached(program) if load_at(program, wants, place) > machine.size]


def denying(names, lengths, renamings):
    """Some of the renamings, such that nothing on belts of these lengths goes with all of them.

    Each one leaves as little as it can of what goes with those ahead of it. None
    of them is made by those, and of 7 names no more than 7 can follow so. With
    one belt two are enough: if no renaming leaves nothing, each has rounds of
    one length, and what goes with one of these goes just with its kin.
    """
    found = []
    left = fillings(names, lengths, [])
    while left:
        row, left = strictest(names, left, renamings)
        found.append(row)
    return found


def strictest(names, left, renamings):
    """The renaming with which the fewest of the tuples of rounds go, and the list of these."""
    best = None
    for row in renamings:
        turn = dict(zip(names, row))
        rest = [rounds for rounds in left if are_turned(rounds, turn)]
        if best is None or len(rest) < len(best[1]):
            best = (row, rest)
        if not rest:
            break
    return best


def is_denial(program, machine, thing):
    """Whether the thing is a denial of the program to the machine."""
    if not is_tuple(thing, 2, 3) or not isinstance(thing[0], str):
        return False
    if len(thing) == 2:
        return thing[0] == "place" and is_heavy(program, machine, thing[1])
    return thing[0] == "rings" and are_denying(program, machine, thing[1], thing[2])


def is_heavy(program, machine, thing):
    return is_number(thing, len(program.steps)) and thing in heavy_places(program, machine)


def are_denying(program, machine, place, walks):
    """Whether it is a full place, and a tuple of rings of it that nothing on the belts goes with."""
    if machine.size != need(program) or not is_tuple(walks, 0, MOST_RINGS):
        return False
    full = full_names(program)
    if not is_number(place, len(program.steps)) or place not in full:
        return False
    onward = onwards(program, full)
    found = [walked(full, onward, place, walk) for walk in walks]
    if not all([pair is not None and pair[0] == place for pair in found]):
        return False
    return first_filling(full[place], machine.belts, [pair[1] for pair in found]) is None
