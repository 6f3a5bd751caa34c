"""What is asked of codes that are made: right on drawn runs, and with rounds alike to those of a seating."""

import random
from itertools import product

from fullbelts.codes import Code
from fullbelts.programs import Program
from fullbelts.refuting import refutation
from fullbelts.tables import is_table, table
from reckoning import carry, is_right, nothing, put_in, rows_of
from samples import goals, moved_steps, reads
from turners import WORDS, makes_for
from turning import alike, all_rounds, goes, replaced, slow_full, slow_moves, slow_pieces, slow_renamings


def goes_right(rng, code, many):
    """Whether each reading of a drawn run of so many steps, or of one that comes to an end, is right."""
    place, rows, has = 0, rows_of(nothing(code.machine)), {}
    for result in range(many):
        step = code.program.steps[place]
        for name, (belt, at) in zip(reads(step), code.rooms.get(place, ())):
            if rows[belt][at] is None or rows[belt][at] != has[name]:
                return False
        ahead = goals(step)
        if not ahead:
            return True
        if step[0] == "make":
            has[step[1]] = result
            put_in(rows, code.belts[place], result)
        number = rng.randrange(len(ahead))
        carry(rows, code.carries.get((place, number), ()))
        place = ahead[number]
    return True


def check_right(test, code, program, machine, runs=3, steps=300):
    """See that it is a right code for the program and the machine."""
    test.assertIs(type(code), Code)
    test.assertTrue(code.program == program)
    test.assertTrue(code.machine == machine)
    test.assertTrue(code == Code(program, machine, code.rooms, code.belts, code.carries))
    found = table(code)
    test.assertIsNotNone(found)
    test.assertIs(is_table(code, found), True)
    test.assertIsNone(refutation(code))
    rng = random.Random(len(program.steps))
    for _ in range(runs):
        test.assertTrue(goes_right(rng, code, steps))


def check_by_states(test, code):
    """See that it is right by all that its rooms may hold."""
    test.assertTrue(is_right(code))


def are_alike(one, other):
    """Whether two dicts from places to rounds have the same places, and rounds that are alike belt by belt."""
    return set(one) == set(other) and all(
        len(one[place]) == len(other[place]) and all(alike(row, there) for row, there in zip(one[place], other[place]))
        for place in one)


def led_on(program, first, rounds):
    """The dict from the places of the piece of a full place to the rounds there, when these are at the place."""
    found, rest = {first: rounds}, [first]
    while rest:
        place = rest.pop()
        for _, begin, end, become in slow_moves(program):
            if begin == place and end not in found:
                found[end] = replaced(found[begin], become)
                rest.append(end)
    return found


def slow_seatings(program, lengths, most):
    """Some seatings, so many at most: each piece goes through all that goes with its rings."""
    full, parts = slow_full(program), []
    for piece, rows in zip(slow_pieces(program), slow_renamings(program)):
        dicts = [dict(zip(full[piece[0]], row)) for row in rows]
        fitting = [rounds for rounds in all_rounds(full[piece[0]], lengths) if all(goes(rounds, one) for one in dicts)]
        parts.append([led_on(program, piece[0], rounds) for rounds in fitting[:most]])
    found = []
    for row in product(*parts):
        if len(found) < most:
            found.append({place: rounds for part in row for place, rounds in part.items()})
    return found


def turned(rng, seats):
    """The same seating with each round turned as it comes."""
    found = {}
    for place, rounds in seats.items():
        cuts = [rng.randrange(len(row)) for row in rounds]
        found[place] = tuple([row[at:] + row[:at] for row, at in zip(rounds, cuts)])
    return found


def star(rows, behind=(("end",),)):
    """A program of as many names as are in a row, with one test from which a ring leads for each row (two at most).

    On each ring the names become those of the row; names that stay are told on
    it. From the last goal of the test go the steps behind, behind all rings.
    """
    words = WORDS[:len(rows[0])]
    steps = [("make", name, (), at + 1) for at, name in enumerate(words)]
    here = len(words)
    rings = [[("make", name, (read,)) for name, read in makes_for(dict(zip(words, row)))]
             + [("tell", name) for name, become in zip(words, row) if name == become] for row in rows]
    first, starts = here + 1, []
    for ring in rings:
        starts.append(first)
        first += len(ring)
    steps.append(("test", words[0], tuple(starts) + (first,)))
    for start, ring in zip(starts, rings):
        steps += [(*step, here if at == len(ring) - 1 else start + at + 1) for at, step in enumerate(ring)]
    return Program(tuple(steps) + tuple(moved_steps(behind, first)))


def cut_off(program, extra):
    """The program with steps behind that no way leads to; their places are told from 0 on."""
    return Program(program.steps + tuple(moved_steps(extra, len(program.steps))))
