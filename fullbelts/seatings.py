"""Seatings: rounds on the belts at each full place, that full ways only turn."""

from fullbelts.codes import has_keys
from fullbelts.kinds import is_tuple
from fullbelts.pieces import check_size, full_names, onwards
from fullbelts.rounds import are_alike, first_filling, renamed
from fullbelts.turns import all_turns
from fullbelts.walks import is_row


def seating(program, machine):
    """A seating of the program on the machine, or None."""
    check_size(program, machine)
    found = {}
    for turns in all_turns(program):
        tree = turns.tree
        rounds = first_filling(tree.names, machine.belts, turns.turns)
        if rounds is None:
            return None
        # What goes with all rings may be led to each place on any walk.
        for place in tree.rows:
            become = dict(zip(tree.names, tree.rows[place]))
            found[place] = tuple([renamed(row, become) for row in rounds])
    return found


def has_seating(found, lengths):
    """Whether there is a seating on belts of these lengths; found is all_turns(program)."""
    return all([first_filling(turns.tree.names, lengths, turns.turns) is not None for turns in found])


def is_seating(program, machine, thing):
    """Whether the thing is a seating of the program on the machine."""
    check_size(program, machine)
    full = full_names(program)
    if not has_keys(thing, full):
        return False
    if not all([are_rounds(machine.belts, full[place], thing[place]) for place in full]):
        return False
    onward = onwards(program, full)
    return all([goes_on(thing, place, onward[place]) for place in full])


def are_rounds(lengths, names, thing):
    """Whether it is a tuple with a round for each belt, of just the names, each once."""
    if not is_tuple(thing, len(lengths), len(lengths)):
        return False
    if not all([is_tuple(row, length, length) for row, length in zip(thing, lengths)]):
        return False
    return is_row(names, tuple([name for row in thing for name in row]))


def goes_on(seats, place, onward):
    """Whether on each full way from the place the rounds are alike to those of the goal, belt by belt."""
    for triple, (ahead, become) in onward.items():
        rounds = [renamed(row, become) for row in seats[place]]
        if triple[2] and not all([are_alike(one, other) for one, other in zip(rounds, seats[ahead])]):
            return False
    return True
