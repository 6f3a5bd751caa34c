"""Plain rings of full ways, and the fewest carries that codes have on them."""

from fullbelts.errors import NoRing, NoSeating, NotFull
from fullbelts.homes import SPARE_BELT, behind_step, code_of, homes_for, left_name, opened
from fullbelts.pieces import full_names, onwards
from fullbelts.programs import made_by
from fullbelts.seatings import is_seating
from fullbelts.shuffles import carries_between
from fullbelts.walks import walked
from fullbelts.webs import check_place, goal


def ring_carries(program, machine, thing, place, ring):
    """For each belt the least number of carries on the ring of all right codes that go with the seating."""
    check_ring(program, machine, thing, place, ring)
    homes, belts = homes_on_ring(program, thing, ring)
    carries = []
    for at, number, _ in ring:
        begin = behind_step(program.steps[at], homes[at], belts[at])
        carries.extend(carries_between(begin, homes[goal(program, (at, number))]))
    return tuple([len([carry for carry in carries if carry[1] == belt]) for belt in range(len(machine.belts))])


def sparing_code(program, machine, thing, place, ring):
    """A right code that goes with the seating and has so few carries on the ring."""
    check_ring(program, machine, thing, place, ring)
    homes, belts = homes_for(program, machine, thing)
    ring_homes, ring_belts = homes_on_ring(program, thing, ring)
    homes.update(ring_homes)
    belts.update(ring_belts)
    return code_of(program, machine, homes, belts)


def check_ring(program, machine, thing, place, ring):
    if not is_seating(program, machine, thing):
        raise NoSeating()
    check_place(program, place)
    full = full_names(program)
    if place not in full:
        raise NotFull()
    found = walked(full, onwards(program, full), place, ring)
    if found is None or found[0] != place or not is_plain(ring):
        raise NoRing()


def is_plain(ring):
    """Whether a ring has ways, goes forth alone, and is at no place twice but at its end."""
    places = [place for place, _, _ in ring]
    return len(ring) > 0 and all([forth for _, _, forth in ring]) and len(set(places)) == len(places)


def homes_on_ring(program, seats, ring):
    """The homes of the ring's places from which its ways have the fewest carries, and the belts of its makes.

    A belt is turned only ahead of a make that puts in there. It is gone round
    twice: the second time each belt comes as its last make left it.
    """
    full = full_names(program)
    homes = {}
    belts = {}
    rounds = seats[ring[0][0]]
    for place, number, _ in ring + ring:
        step = program.steps[place]
        belt = SPARE_BELT
        if step[0] == "make":
            names_ahead = full[goal(program, (place, number))]
            rounds, belt = opened(rounds, left_name(made_by(step), full[place], names_ahead))
        homes[place] = rounds
        belts[place] = belt
        rounds = behind_step(step, rounds, belt)
    return homes, belts
