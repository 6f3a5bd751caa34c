import random
import unittest
from itertools import product

from carrying import leads
from fullbelts.errors import NoPlace, NoRing, NoSeating, NotFull, OtherSize
from fullbelts.machines import Machine
from fullbelts.makers import seats
from fullbelts.programs import Program
from fullbelts.rings import ring_carries, sparing_code
from fullbelts.seatings import seating
from making import are_alike, check_right, cut_off, slow_seatings, star, turned
from reckoning import passed_in
from samples import check_unchanged, goals, grown, odd_things, raised, s
from turners import (
    AT_A_MAKE, BOTH, FORKED, ITSELF, NOWHERE, apart, changed_turners, random_turners, turner_of, wide)
from turning import belts_of_size, kind_raised, slow_full, slow_need

TWO, PLAIN = Machine((2,)), Machine((1, 1))

RING = ((2, 0, True), (3, 0, True), (4, 0, True), (5, 0, True))

PROGRAMS = [s(), BOTH, ITSELF, apart([s(), BOTH]), star(["bca", "abc"]), star(["bac", "acb"]), star(["ab", "ba"]),
            star(["bcda", "abcd"]), star(["badc", "abcd"]), star(["cdab"]), star(["cab"]),
            *changed_turners(120, 21)[:50], *random_turners(4, 40, 29)]


def plain_rings(program, most):
    """Plain rings, so many at most of each place: pairs of a place and a ring."""
    full = slow_full(program)
    found = []
    for begin in full:
        rows, many = [((begin, number, True),) for number in range(len(goals(program.steps[begin])))], 0
        while rows:
            row = rows.pop()
            end = goals(program.steps[row[-1][0]])[row[-1][1]]
            if end == begin and many < most:
                many += 1
                found.append((begin, row))
            if end in full and end not in [place for place, _, _ in row]:
                rows += [row + ((end, number, True),) for number in range(len(goals(program.steps[end])))]
    return found


COSTS = {}


def costs(begin, belt):
    """The dict from holdings to which carries lead to the least number of carries to the belt among them."""
    if (begin, belt) not in COSTS:
        found, rest = {begin: 0}, {0: [begin]}
        while rest:
            cost = min(rest)
            for holding in rest.pop(cost):
                if found[holding] == cost:
                    for (_, onto), behind in leads(holding):
                        more = cost + (onto == belt)
                        if more < found.get(behind, more + 1):
                            found[behind] = more
                            rest.setdefault(more, []).append(behind)
        COSTS[(begin, belt)] = found
    return COSTS[(begin, belt)]


def all_turned(rounds):
    """All rounds that are alike to these, belt by belt."""
    return list(product(*[[row[at:] + row[:at] for at in range(len(row))] for row in rounds]))


def way_cost(step, here, there, belt):
    """The least number of carries to the belt on a way, whichever belt a make puts in at, or None."""
    begins = [here] if step[0] != "make" else [passed_in(step, here, front) for front in range(len(here))]
    return min([costs(begin, belt)[there] for begin in begins if there in costs(begin, belt)], default=None)


def slow_ring_carries(program, machine, thing, ring):
    """For each belt the least number of its carries on the ring, by all that tables may have on it."""
    found = []
    for belt in range(len(machine.belts)):
        best = []
        for first in all_turned(thing[ring[0][0]]):
            row = {first: 0}
            for at, (place, _, _) in enumerate(ring):
                ends = [first] if at == len(ring) - 1 else all_turned(thing[ring[at + 1][0]])
                sums = [(there, many, way_cost(program.steps[place], here, there, belt))
                        for here, many in row.items() for there in ends]
                row = {there: min(many + more for other, many, more in sums if other == there and more is not None)
                       for there in ends if any(other == there and more is not None for other, _, more in sums)}
            best += [row[first]] if first in row else []
        found.append(min(best))
    return tuple(found)


def counted(code, ring):
    """How many carries to each belt a code has on a ring."""
    found = [0] * len(code.machine.belts)
    for place, number, _ in ring:
        for _, belt in code.carries.get((place, number), ()):
            found[belt] += 1
    return tuple(found)


class Rings(unittest.TestCase):
    def check(self, program, machine, thing, place, ring):
        """See that the code has just as many carries as are told; tell them."""
        found = ring_carries(program, machine, thing, place, ring)
        self.assertEqual([type(found), *map(type, found)], [tuple] + [int] * len(machine.belts))
        code = sparing_code(program, machine, thing, place, ring)
        check_right(self, code, program, machine, 1, 200)
        self.assertTrue(are_alike(thing, seats(code)))
        self.assertEqual(counted(code, ring), found)
        return found

    def test_samples(self):
        self.assertEqual(self.check(s(), TWO, seating(s(), TWO), 2, RING), (0,))
        for at, (place, _, _) in enumerate(RING):
            self.assertEqual(self.check(s(), TWO, seating(s(), TWO), place, RING[at:] + RING[:at]), (0,))

    def test_one_way(self):
        self.assertEqual(self.check(BOTH, TWO, seating(BOTH, TWO), 3, ((3, 1, True), (2, 0, True))), (0,))
        self.assertEqual(self.check(ITSELF, TWO, seating(ITSELF, TWO), 2, ((2, 1, True),)), (0,))
        program = Program((("make", "x", (), 1), ("make", "y", (), 2), ("make", "x", ("x", "y"), 2)))
        self.assertEqual(self.check(program, TWO, seating(program, TWO), 2, ((2, 0, True),)), (1,))
        self.assertEqual(self.check(program, PLAIN, seating(program, PLAIN), 2, ((2, 0, True),)), (0, 0))
        program = Program((("make", "x", (), 1), ("make", "x", ("x",), 1)))
        self.assertEqual(self.check(program, Machine((1,)), seating(program, Machine((1,))), 1, ((1, 0, True),)), (0,))

    def test_makes_at_one_belt_alone(self):
        program = Program((("make", "a", (), 1), ("make", "b", (), 2), ("make", "c", (), 3), ("make", "d", (), 4),
                           ("make", "a", ("a",), 5), ("test", "b", (4, 6)), ("tell", "c", 7), ("tell", "d", 8), ("end",)))
        for belts, names in (((2, 2), ("abcd", "bacd", "acbd")), ((3, 1), ("abcd", "bcda")), ((4,), ("abcd",)),
                             ((1, 3), ("abcd", "dabc")), ((2, 1, 1), ("abcd", "cdab"))):
            for word in names:
                rounds, rest = [], word
                for length in belts:
                    rounds.append(tuple(rest[:length]))
                    rest = rest[length:]
                thing = {place: tuple(rounds) for place in (4, 5)}
                found = self.check(program, Machine(belts), thing, 4, ((4, 0, True), (5, 0, True)))
                # The one make comes round to the seat where it put in: all others of its belt are passed.
                self.assertEqual(found, tuple([length - 1 if "a" in row else 0 for length, row in zip(belts, rounds)]))

    def test_no_makes(self):
        for program in (turner_of("abc"), star(["abcd", "abcd"])):
            for belts in belts_of_size(slow_need(program)):
                thing = seating(program, Machine(belts))
                for place, ring in plain_rings(program, 5):
                    self.assertEqual(self.check(program, Machine(belts), thing, place, ring), (0,) * len(belts))

    def test_against_a_slow_reckoning(self):
        rng = random.Random(1)
        some, more = 0, 0
        for program in PROGRAMS:
            if slow_need(program) <= 4:
                for belts in belts_of_size(slow_need(program)):
                    for seated in slow_seatings(program, belts, 2):
                        for place, ring in plain_rings(program, 2)[:8]:
                            machine = Machine(belts)
                            thing = rng.choice((seated, turned(rng, seated)))
                            found = self.check(program, machine, thing, place, ring)
                            self.assertEqual(found, slow_ring_carries(program, machine, thing, ring))
                            some += 1
                            more += sum(found) > 0
        self.assertGreater(min(some, more), 100)

    def test_seven_names(self):
        rng = random.Random(2)
        for program in (star(["bcdefga", "abcdefg"]), star(["badcfeg"]), star(["bcadefg", "abcedfg"])):
            self.assertEqual(slow_need(program), 7)
            for belts in ((7,), (2, 2, 2, 1), (2, 4, 1), (3, 2, 2), (3, 2, 1, 1), (1, 3, 2, 1), (3, 4)):
                for seated in slow_seatings(program, belts, 2):
                    for place, ring in plain_rings(program, 1)[:6]:
                        found = self.check(program, Machine(belts), turned(rng, seated), place, ring)
                        self.assertEqual(found, ring_carries(program, Machine(belts), seated, place, ring))

    def test_alike_at_all_places_or_not(self):
        rng = random.Random(3)
        for program in PROGRAMS[:12]:
            for belts in belts_of_size(slow_need(program)):
                for seated in slow_seatings(program, belts, 1):
                    for place, ring in plain_rings(program, 1):
                        found = ring_carries(program, Machine(belts), seated, place, ring)
                        for _ in range(3):
                            thing = turned(rng, seated)
                            self.assertEqual(ring_carries(program, Machine(belts), thing, place, ring), found)

    def test_more_than_forty_places(self):
        program = grown(self, wide(300))
        ring = tuple([(place, 0, True) for place in range(2, 306)])
        self.assertEqual(self.check(program, TWO, seating(program, TWO), 2, ring), (0,))
        self.assertIs(kind_raised(ring_carries, program, TWO, seating(program, TWO), 2, ring[:-1]), NoRing)


class Errors(unittest.TestCase):
    def check(self, expected, *arguments):
        for call in (ring_carries, sparing_code):
            self.assertIs(kind_raised(call, *arguments), expected, arguments)

    def test_no_ring(self):
        right = seating(s(), TWO)
        back = tuple([(place, number, False) for place, number, _ in RING[::-1]])
        for ring in ((), RING[:-1], RING + RING, RING[1:], RING[1:] + RING[:1], back, RING[:1] + back[-1:] + RING,
                     RING[:2] + ((3, 0, False), (3, 0, True)) + RING[2:], ((2, 1, True),), list(RING),
                     tuple([list(triple) for triple in RING]), tuple([triple[:2] for triple in RING]),
                     ((2, False, True),) + RING[1:], ((2, 0, 1),) + RING[1:], ((2, 0, None),) + RING[1:],
                     (("2", 0, True),) + RING[1:], ((2, 0, True, True),) + RING[1:], ((-1, 0, True),), ((2, 3, True),),
                     (RING,), None, "ring", 0, RING + ((2, 0, True),), (None,) + RING):
            self.check(NoRing, s(), TWO, right, 2, ring)
        self.check(NoRing, ITSELF, TWO, seating(ITSELF, TWO), 2, ((2, 0, True), (2, 0, True)))
        self.check(NoRing, ITSELF, TWO, seating(ITSELF, TWO), 2, ((2, 0, True), (2, 1, True)))
        self.check(NoRing, BOTH, TWO, seating(BOTH, TWO), 2, (
            (2, 0, True), (3, 0, True), (2, 0, True), (3, 1, True)))
        self.check(NoRing, BOTH, TWO, seating(BOTH, TWO), 2, ((2, 0, True), (2, 0, False)))
        self.check(NoRing, AT_A_MAKE, TWO, seating(AT_A_MAKE, TWO), 2, ())

    def test_any_ring(self):
        right = seating(s(), TWO)
        for thing in odd_things():
            for ring in (thing, (thing,), RING[:-1] + (thing,), (thing,) + RING[1:], ((thing, 0, True),) + RING[1:],
                         ((2, thing, True),) + RING[1:], ((2, 0, thing),) + RING[1:], RING + (thing,)):
                same = type(ring) is tuple and len(ring) == 4 and [
                    list(map(type, triple)) for triple in ring if type(triple) is tuple] == [[int, int, bool]] * 4
                self.check(None if same and ring == RING else NoRing, s(), TWO, right, 2, ring)
        check_unchanged(self, lambda thing: raised(ring_carries, s(), TWO, right, 2, thing))

    def test_places(self):
        right = seating(s(), TWO)
        for place in (9, -1, 10 ** 59, True, False, "2", None, (2,), [2], (), b"2"):
            self.check(NoPlace, s(), TWO, right, place, RING)
            self.check(NoPlace, s(), TWO, right, place, None)
        for place in (0, 1, 7, 8):
            self.check(NotFull, s(), TWO, right, place, RING)
            self.check(NotFull, s(), TWO, right, place, None)
        for thing in odd_things():
            expected = NoPlace
            if type(thing) is int and 0 <= thing < 9:
                expected = NoRing if thing in (2, 3, 4, 5, 6) else NotFull
            self.check(expected, s(), TWO, right, thing, ())
        for place in range(4):
            self.check(NotFull, NOWHERE, TWO, {}, place, ())
        self.check(NoPlace, NOWHERE, TWO, {}, 4, ())
        cut = cut_off(s(), (("go", 0), ("go", 0)))
        self.check(NotFull, cut, TWO, seating(cut, TWO), 9, RING)
        self.check(NoPlace, cut, TWO, seating(cut, TWO), 11, RING)

    def test_no_seating_first(self):
        for thing in ({}, None, {**seating(s(), TWO), 2: (("x", "t"),)}, [], seating(FORKED, TWO), *odd_things()):
            for place, ring in ((2, RING), (2, ()), (0, RING), (99, None), ("x", 0)):
                self.check(NoSeating, s(), TWO, thing, place, ring)

    def test_other_size_first_of_all(self):
        for belts in ((1,), (3,), (1, 1, 1), (2, 1), (8, 4)):
            for thing in (seating(s(), TWO), {}, None):
                for place, ring in ((2, RING), (0, RING), (99, None)):
                    self.check(OtherSize, s(), Machine(belts), thing, place, ring)

    def test_nothing_is_changed(self):
        right = seating(s(), TWO)
        kept = dict(right)
        first = sparing_code(s(), TWO, right, 2, RING)
        self.assertEqual(right, kept)
        right.clear()
        self.assertTrue(first == sparing_code(s(), TWO, kept, 2, RING))
        self.assertTrue(first == sparing_code(s(), TWO, {place: kept[place] for place in reversed(list(kept))}, 2, RING))


if __name__ == "__main__":
    unittest.main()
