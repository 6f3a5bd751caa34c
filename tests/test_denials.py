import random
import unittest

from fullbelts.denials import denial, is_denial
from fullbelts.errors import OtherSize
from fullbelts.machines import Machine
from fullbelts.programs import Program
from fullbelts.seatings import seating
from samples import check_unchanged, faultless_programs, grown, odd_things, raised, s
from turners import (
    FORKED, LONE, NOWHERE, SEVEN, SIX, apart, changed_turners, random_turners, turner_of, wide)
from turning import (
    belts_of_size, kind_raised, shapes_of_size, slow_full, slow_is_denial, slow_loads, slow_need)

TWO, PLAIN = Machine((2,)), Machine((1, 1))

RING = ((2, 0, True), (3, 0, True), (4, 0, True), (5, 0, True))

# The names of two pairs are exchanged within the pairs by the ring at 4, and with the other pair by that at 11.
KLEIN = turner_of("badc", "cdab")
FIRST = tuple([(place, 0, True) for place in range(4, 11)])
SECOND = ((4, 1, True),) + tuple([(place, 0, True) for place in range(11, 18)]) + ((4, 1, False),)


# Six names of which each renaming but one leaves none: threes are turned, and exchanged by pairs.
REGULAR = turner_of("bcaefd", "dfeacb")

PROGRAMS = changed_turners(120, 21) + random_turners(5, 60, 23) + (KLEIN, REGULAR)


class Places(unittest.TestCase):
    def test_samples(self):
        one = Machine((1,))
        self.assertEqual([is_denial(s(), one, ("place", place)) for place in range(9)], [
            False, True, True, True, True, True, True, False, False])
        self.assertEqual(denial(s(), one)[0], "place")

    def test_a_load_greater_than_the_names_that_are_wanted(self):
        one = Machine((1,))
        self.assertIs(is_denial(NOWHERE, one, ("place", 1)), True)
        self.assertEqual([is_denial(NOWHERE, one, ("place", place)) for place in (0, 2, 3)], [False] * 3)
        self.assertEqual(denial(NOWHERE, one), ("place", 1))

    def test_places_that_are_not_reached(self):
        program = Program(s().steps[:8] + (("end",), ("make", "z", ("x", "y"), 10), ("test", "x", (9, 2))))
        self.assertIs(is_denial(program, Machine((1,)), ("place", 9)), False)
        self.assertIs(is_denial(program, Machine((1,)), ("place", 10)), False)
        self.assertIs(is_denial(program, Machine((1,)), ("place", 2)), True)

    def test_as_many_and_more_rooms(self):
        for belts in ((2,), (1, 1), (3,), (2, 1), (8, 4)):
            for place in range(-1, 10):
                self.assertIs(is_denial(s(), Machine(belts), ("place", place)), False)

    def test_all_smaller_machines(self):
        for program in PROGRAMS + tuple(faultless_programs(60)):
            for size in range(1, slow_need(program)):
                for belts in belts_of_size(size):
                    machine = Machine(belts)
                    found = denial(program, machine)
                    self.assertIs(type(found), tuple)
                    self.assertGreater(slow_loads(program)[found[1]], size)
                    self.assertTrue(slow_is_denial(program, machine, found))
                    self.assertIs(is_denial(program, machine, found), True)
                for place in range(len(program.steps)):
                    right = slow_loads(program).get(place, 0) > size
                    self.assertIs(is_denial(program, machine, ("place", place)), right)

    def test_rings_are_none_for_smaller_machines(self):
        for belts in ((1,), (3,), (1, 1, 1)):
            self.assertIs(is_denial(s(), Machine(belts), ("rings", 2, (RING,))), False)


class Rings(unittest.TestCase):
    def test_samples(self):
        self.assertIs(is_denial(s(), PLAIN, ("rings", 2, (RING,))), True)
        self.assertIs(is_denial(s(), TWO, ("rings", 2, (RING,))), False)
        self.assertIs(is_denial(s(), PLAIN, ("rings", 2, (RING * 2,))), False)
        self.assertIs(is_denial(s(), PLAIN, ("rings", 2, (RING * 3,))), True)
        self.assertIs(is_denial(s(), PLAIN, ("rings", 4, (RING[2:] + RING[:2],))), True)
        self.assertIs(is_denial(FORKED, PLAIN, ("rings", 2, (
            ((2, 0, True), (3, 0, True), (4, 0, True), (5, 0, True), (2, 1, False)),))), True)

    def test_of_none_and_of_many(self):
        for program, machine in ((s(), PLAIN), (s(), TWO), (KLEIN, Machine((4,)))):
            self.assertIs(is_denial(program, machine, ("rings", min(slow_full(program)), ())), False)
        for many in range(1, 12):
            self.assertIs(is_denial(s(), PLAIN, ("rings", 2, (RING,) * many)), many <= 8)
            self.assertIs(is_denial(s(), PLAIN, ("rings", 2, (RING * 2,) * (many - 1) + (RING,))), many <= 8)
            self.assertIs(is_denial(s(), PLAIN, ("rings", 2, ((),) * many)), False)

    def test_where_two_rings_are_needed(self):
        for belts, two in (((4,), True), ((2, 2), True)):
            machine = Machine(belts)
            for walks, right in (((FIRST,), False), ((SECOND,), False), ((FIRST + SECOND,), False),
                                 ((FIRST, SECOND), two), ((FIRST, FIRST + SECOND), two), ((FIRST, FIRST), False)):
                self.assertIs(is_denial(KLEIN, machine, ("rings", 4, walks)), right)
                self.assertEqual(slow_is_denial(KLEIN, machine, ("rings", 4, walks)), right)
            found = denial(KLEIN, machine)
            self.assertEqual(found[:2], ("rings", 4))
            self.assertEqual(len(found[2]), 2)
            self.assertTrue(slow_is_denial(KLEIN, machine, found))

    def test_the_third_fact(self):
        rings = set()
        for program in PROGRAMS:
            for belts in belts_of_size(slow_need(program)):
                machine = Machine(belts)
                found = denial(program, machine)
                self.assertEqual(found is None, seating(program, machine) is not None)
                if found is not None:
                    self.assertEqual([type(part) for part in found], [str, int, tuple])
                    self.assertTrue(slow_is_denial(program, machine, found))
                    self.assertIs(is_denial(program, machine, found), True)
                    self.assertLessEqual(len(found[2]), 2 if len(belts) == 1 else 8)
                    rings.add(len(found[2]))
        self.assertTrue({1, 2} <= rings)

    def test_one_belt_of_up_to_six_names(self):
        # Whatever two rings do, on one belt a denial of two rings is enough.
        rng = random.Random(41)
        for many in (4, 6, 6):
            for _ in range(25):
                rows = [tuple(rng.sample("abcdef"[:many], many)) for _ in range(2)]
                program = turner_of(*rows)
                found = denial(program, Machine((many,)))
                self.assertEqual(found is None, seating(program, Machine((many,))) is not None)
                if found is not None:
                    self.assertLessEqual(len(found[2]), 2)
                    self.assertIs(is_denial(program, Machine((many,)), found), True)

    def test_renamings_with_rounds_of_one_length_that_are_no_powers_of_one(self):
        machine = Machine((6,))
        found = denial(REGULAR, machine)
        self.assertEqual(len(found[2]), 2)
        self.assertTrue(slow_is_denial(REGULAR, machine, found))
        for ring in found[2]:
            self.assertIs(is_denial(REGULAR, machine, ("rings", 6, (ring,))), False)

    def test_all_renamings_of_six_and_seven(self):
        for program in (SIX, SEVEN):
            for belts in shapes_of_size(slow_need(program)):
                found = denial(program, Machine(belts))
                self.assertIs(is_denial(program, Machine(belts), found), True)
                self.assertLessEqual(len(found[2]), 8)

    def test_belts_of_several_rings(self):
        program = turner_of("bacdef", "abdcef", "abcdfe")
        for belts in belts_of_size(6):
            found = denial(program, Machine(belts))
            self.assertEqual(found is None, sorted(belts) == [2, 2, 2])
            if found is not None:
                self.assertIs(is_denial(program, Machine(belts), found), True)

    def test_several_pieces(self):
        program = apart([turner_of("abcd"), turner_of("bacd"), FORKED])
        found = denial(program, Machine((1, 1, 1, 1)))
        self.assertTrue(slow_is_denial(program, Machine((1, 1, 1, 1)), found))
        self.assertIsNone(denial(program, Machine((2, 2))))

    def test_programs_without_a_full_place(self):
        for machine in (TWO, PLAIN):
            self.assertIsNone(denial(NOWHERE, machine))
            for place in range(4):
                self.assertIs(is_denial(NOWHERE, machine, ("rings", place, ())), False)
                self.assertIs(is_denial(NOWHERE, machine, ("rings", place, ((),))), False)
        self.assertIsNone(denial(LONE, Machine((1,))))

    def test_what_is_no_denial(self):
        things = [
            ["rings", 2, (RING,)], ("rings", 2, [RING]), ("rings", 2, (list(RING),)), ("rings", 2, RING), ("rings", 2),
            ("rings", 2, (RING,), 0), ("ring", 2, (RING,)), ("Rings", 2, (RING,)), (b"rings", 2, (RING,)),
            ("rings", True, (RING,)), ("rings", 3, (RING,)), ("rings", 0, (RING,)), ("rings", 8, (RING,)),
            ("rings", 9, (RING,)), ("rings", -7, (RING,)), ("rings", "2", (RING,)), ("rings", None, (RING,)),
            ("rings", 2, (RING[:3],)), ("rings", 2, (RING + RING[:1],)), ("rings", 2, (RING, None)),
            ("rings", 2, (RING, RING[1:])), ("rings", 2, (((2, 0, 1),) + RING[1:],)), ("rings", 2, None),
            ("rings", 2, (RING, RING[:2])), ("rings", 10 ** 59, (RING,)), ("place", 2), ("place",), ("place", 2, ()),
            ("place", True), ("place", "2"), ("rings", 6, (RING,)), ("rings", 2, {RING: 0}), "rings", ("place", None),
            ("place", 10 ** 59), ("place", -8), ("rings",), (), None, 2, ("rings", (RING,), 2)]
        for thing in things:
            self.assertIs(is_denial(s(), PLAIN, thing), False, thing)
            self.assertFalse(slow_is_denial(s(), PLAIN, thing))
        one = Machine((1,))
        for thing in (["place", 2], ("place", 2, ()), ("place", (2,)), ("places", 2), ("place", True), ("place", [2]),
                      (2, "place"), ("place", 2, 2), "place", ("place", -7), (b"place", 2), ("place", 9)):
            self.assertIs(is_denial(s(), one, thing), False, thing)

    def test_any_thing_is_judged(self):
        for machine in (PLAIN, TWO, Machine((1,)), Machine((3,))):
            for thing in odd_things():
                for made in (thing, ("place", thing), ("rings", thing, (RING,)), ("rings", 2, thing), (thing, 2),
                             ("rings", 2, (thing,)), ("rings", 2, (RING, thing)), (thing, 2, (RING,)),
                             ("rings", 2, ((thing,),))):
                    self.assertIs(is_denial(s(), machine, made), slow_is_denial(s(), machine, made))
        check_unchanged(self, lambda thing: is_denial(s(), PLAIN, thing))
        check_unchanged(self, lambda thing: is_denial(s(), PLAIN, ("rings", 2, thing)))
        check_unchanged(self, lambda thing: is_denial(s(), Machine((1,)), ("place", thing)))

    def test_other_size(self):
        for belts in ((3,), (2, 1), (1, 1, 1), (8, 4)):
            self.assertIs(kind_raised(denial, s(), Machine(belts)), OtherSize)
            self.assertIs(kind_raised(denial, NOWHERE, Machine(belts)), OtherSize)
            for thing in [("rings", 2, (RING,)), ("place", 2), None, *odd_things()]:
                self.assertIs(is_denial(s(), Machine(belts), thing), False)
                self.assertIsNone(raised(is_denial, s(), Machine(belts), thing))

    def test_equal_calls_and_unchanged_programs(self):
        for program in PROGRAMS[:60]:
            steps = program.steps
            machine = Machine(belts_of_size(slow_need(program))[0])
            self.assertEqual(denial(program, machine), denial(Program(steps), Machine(machine.belts)))
            self.assertEqual(program.steps, steps)

    def test_long_rings(self):
        self.assertIs(is_denial(s(), PLAIN, ("rings", 2, (RING * 501,))), True)
        self.assertIs(is_denial(s(), PLAIN, ("rings", 2, (RING * 500,))), False)

    def test_more_than_forty_places(self):
        program = grown(self, wide(2000))
        found = denial(program, PLAIN)
        self.assertIs(is_denial(program, PLAIN, found), True)
        ring = tuple([(place, 0, True) for place in range(2, 2006)])
        self.assertIs(is_denial(program, PLAIN, ("rings", 2, (ring,))), True)
        self.assertIs(is_denial(program, TWO, ("rings", 2, (ring,))), False)
        self.assertIsNone(denial(program, TWO))
        self.assertIs(is_denial(program, Machine((1,)), ("place", 1500)), True)


if __name__ == "__main__":
    unittest.main()
