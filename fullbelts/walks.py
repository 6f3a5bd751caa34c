"""Walks on full ways, gone forth and back, and what the names become on them."""

from fullbelts.errors import NoNames, NotFull, NoWalk
from fullbelts.kinds import is_integer, is_name, is_tuple
from fullbelts.pieces import full_names, onwards
from fullbelts.turns import turns_of
from fullbelts.webs import check_place


def is_triple(thing):
    """Whether it has the form of a triple of a walk."""
    if not is_tuple(thing, 3, 3) or not isinstance(thing[2], bool):
        return False
    return is_integer(thing[0]) and is_integer(thing[1])


def walked(full, onward, place, thing):
    """The end and the renaming of a walk from a full place; None for what is none."""
    if not isinstance(thing, tuple):
        return None
    at = place
    become = {name: name for name in full[place]}
    for triple in thing:
        if not is_triple(triple) or triple not in onward[at]:
            return None
        at, heir = onward[at][triple]
        become = {name: heir[become[name]] for name in become}
    return at, become


def walked_from(program, place, walk):
    """The end and the renaming of the walk."""
    check_place(program, place)
    full = full_names(program)
    if place not in full:
        raise NotFull()
    found = walked(full, onwards(program, full), place, walk)
    if found is None:
        raise NoWalk()
    return found


def renaming(program, place, walk):
    """The dict from the names that are wanted at the place to what they become on the walk."""
    return walked_from(program, place, walk)[1]


def walk_end(program, place, walk):
    """The place to which the walk leads."""
    return walked_from(program, place, walk)[0]


def renamings(program, number):
    """The ascending list of the renamings of all rings of a piece's first place."""
    return turns_of(program, number).renamings()


def ring_for(program, number, names):
    """A ring of a piece's first place on which its names become these, or None."""
    turns = turns_of(program, number)
    if not is_row(turns.tree.names, names):
        raise NoNames()
    return turns.ring(names)


def is_row(names, thing):
    """Whether it is a tuple of just these names, each once, in any order."""
    if not isinstance(thing, tuple) or not all([is_name(name) for name in thing]):
        return False
    return sorted(thing) == list(names)
