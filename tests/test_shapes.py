import random
import unittest

from fullbelts.errors import OtherSize, TooLarge
from fullbelts.machines import Machine
from fullbelts.programs import Program
from fullbelts.shapes import fewest_belts, over, parting, shapes
from fullbelts.verdicts import enough
from samples import all_faults, grown, raised, s
from turners import (
    AT_A_MAKE, FORKED, LONE, NOWHERE, SEVEN, SIX, apart, changed_turners, random_turners, turner_of, wide)
from turning import belts_of_size, kind_raised, shapes_of_size, slow_enough, slow_need

PROGRAMS = changed_turners(120, 21) + random_turners(5, 60, 23)


def put_together(belts):
    """All shapes that come of these belts by putting plain rooms together to belts."""
    longer = [length for length in belts if length > 1]
    return {tuple(sorted(longer + list(row), reverse=True)) for row in parts(belts.count(1), 8)}


def parts(many, most):
    if many == 0:
        return [()]
    return [(first, *rest) for first in range(1, min(many, most) + 1) for rest in parts(many - first, first)]


def is_over(one, other):
    return tuple(sorted(one, reverse=True)) in put_together(other)


class Shapes(unittest.TestCase):
    def test_samples(self):
        self.assertEqual(shapes(s()), [(2,)])
        self.assertEqual(shapes(FORKED), [(2,)])
        self.assertEqual(shapes(LONE), [(1,)])
        self.assertEqual(shapes(NOWHERE), [(1, 1), (2,)])
        self.assertEqual(shapes(AT_A_MAKE), [(1, 1), (2,)])
        self.assertEqual(shapes(turner_of("bacd")), [(2, 1, 1), (2, 2)])
        self.assertEqual(shapes(turner_of("badc")), [(2, 2), (4,)])
        self.assertEqual(shapes(turner_of("bac", "acb")), [])

    def test_need_six_and_seven(self):
        self.assertEqual(shapes(SIX), [])
        self.assertEqual(shapes(SEVEN), [])
        self.assertEqual(shapes(turner_of("bcdefga")), [(7,)])
        self.assertEqual(shapes(turner_of("badcfeg")), [(2, 2, 2, 1), (4, 2, 1), (6, 1)])

    def test_names_that_stay(self):
        for many in range(1, 8):
            found = shapes(turner_of("abcdefg"[:many]))
            self.assertEqual(found, shapes_of_size(many))
            self.assertEqual(len(found), [1, 2, 3, 5, 7, 11, 14][many - 1])
            self.assertTrue(all(len(shape) <= 6 for shape in found))

    def test_many_programs(self):
        for program in PROGRAMS:
            found = shapes(program)
            self.assertEqual(found, [shape for shape in shapes_of_size(slow_need(program))
                                     if slow_enough(program, shape)])
            self.assertIs(type(found), list)
            self.assertEqual([type(shape) for shape in found], [tuple] * len(found))
            for shape in shapes_of_size(slow_need(program)):
                self.assertIs(enough(program, Machine(shape)), shape in found)

    def test_several_pieces(self):
        self.assertEqual(shapes(apart([turner_of("bacd"), turner_of("badc")])), [(2, 2)])
        self.assertEqual(shapes(apart([turner_of("bcad"), turner_of("badc")])), [])

    def test_a_changed_answer_spoils_nothing(self):
        program = s()
        shapes(program).clear()
        self.assertEqual(shapes(program), [(2,)])
        self.assertEqual(shapes(Program(program.steps)), [(2,)])
        self.assertEqual(program.steps, s().steps)

    def test_more_than_forty_places(self):
        program = grown(self, wide(2000))
        self.assertEqual(shapes(program), [(2,)])
        self.assertEqual(fewest_belts(program), (2,))


class Fewest(unittest.TestCase):
    def test_samples(self):
        self.assertEqual(fewest_belts(s()), (2,))
        self.assertEqual(fewest_belts(NOWHERE), (2,))
        self.assertEqual(fewest_belts(turner_of("bacd")), (2, 2))
        self.assertEqual(fewest_belts(turner_of("badcfeg")), (6, 1))
        self.assertIsNone(fewest_belts(SIX))

    def test_the_first_of_some_with_as_few(self):
        # The pair needs a belt of two alone; the names that stay fill one, or two.
        self.assertEqual(fewest_belts(turner_of("bacdef")), (4, 2))
        self.assertEqual(fewest_belts(turner_of("bcadef")), (3, 3))
        self.assertEqual(fewest_belts(turner_of("badcefg")), (4, 3))
        self.assertEqual(fewest_belts(turner_of("bacdefg", "abdcefg")), (3, 2, 2))

    def test_many_programs(self):
        for program in PROGRAMS:
            found = [shape for shape in shapes_of_size(slow_need(program)) if slow_enough(program, shape)]
            fewest = min(map(len, found), default=0)
            first = [shape for shape in found if len(shape) == fewest]
            self.assertEqual(fewest_belts(program), first[0] if first else None)


class Over(unittest.TestCase):
    def test_samples(self):
        for one, other, right in (
                ((2,), (1, 1), True), ((1, 1), (2,), False), ((2, 1), (1, 1, 1), True), ((3,), (2, 1), False),
                ((3,), (1, 1, 1), True), ((2, 2), (2, 1, 1), True), ((2, 2), (1, 1, 1, 1), True), ((4,), (2, 2), False),
                ((2, 2), (4,), False), ((3, 2), (2, 1, 1, 1), True), ((3, 2), (1, 2, 1, 1), True),
                ((4, 2), (2, 2, 1, 1), False), ((2, 2, 2), (2, 2, 1, 1), True), ((2, 4), (2, 2, 2), False)):
            self.assertIs(over(Machine(one), Machine(other)), right)

    def test_machines_over_themselves_and_in_another_order(self):
        for size in range(1, 8):
            for belts in belts_of_size(size):
                self.assertIs(over(Machine(belts), Machine(belts)), True)
                self.assertIs(over(Machine(belts), Machine(belts[::-1])), True)
                self.assertIs(over(Machine(tuple(sorted(belts))), Machine(belts)), True)
                self.assertIsNone(parting(Machine(belts[::-1]), Machine(belts)))

    def test_by_putting_plain_rooms_together(self):
        rng = random.Random(51)
        for size in range(1, 8):
            for one in shapes_of_size(size):
                for other in shapes_of_size(size):
                    mixed = tuple(rng.sample(other, len(other)))
                    self.assertIs(over(Machine(one), Machine(mixed)), is_over(one, other))

    def test_by_the_programs(self):
        by_size = {}
        for program in PROGRAMS + (SIX, SEVEN):
            by_size.setdefault(slow_need(program), []).append(program)
        for size in range(1, 6):
            for one in shapes_of_size(size):
                for other in shapes_of_size(size):
                    if over(Machine(one), Machine(other)):
                        for program in by_size.get(size, ()):
                            self.assertTrue(slow_enough(program, one) or not slow_enough(program, other))

    def test_errors(self):
        for call in (over, parting):
            for one, other, error in (
                    ((1,), (2,), OtherSize), ((2,), (1,), OtherSize), ((8,), (7,), OtherSize), ((7,), (8,), OtherSize),
                    ((8, 4), (8, 3), OtherSize), ((1, 1, 1), (2,), OtherSize), ((8,), (8,), TooLarge),
                    ((8,), (4, 4), TooLarge), ((2,) * 6, (8, 4), TooLarge), ((7,), (7,), None), ((7,), (6, 1), None)):
                self.assertIs(kind_raised(call, Machine(one), Machine(other)), error)
        self.assertEqual(raised(over, Machine((8,)), Machine((5, 3))).most, 7)
        self.assertEqual(raised(parting, Machine((8,)), Machine((8,))).most, 7)


class Partings(unittest.TestCase):
    def check(self, one, other):
        found = parting(Machine(one), Machine(other))
        self.assertEqual(found is None, over(Machine(one), Machine(other)))
        if found is not None:
            self.assertIs(type(found), Program)
            self.assertEqual(all_faults(found), [])
            self.assertEqual(slow_need(found), sum(one))
            self.assertIs(enough(found, Machine(other)), True)
            self.assertIs(enough(found, Machine(one)), False)
            self.assertTrue(Program(found.steps) == found)
        return found

    def test_up_to_five_rooms_slowly(self):
        for size in range(1, 6):
            for one in shapes_of_size(size):
                for other in shapes_of_size(size):
                    found = self.check(one, other)
                    if found is not None:
                        self.assertTrue(slow_enough(found, other))
                        self.assertFalse(slow_enough(found, one))

    def test_six_and_seven_rooms(self):
        kept = {}
        for size in (6, 7):
            for other in shapes_of_size(size):
                for one in shapes_of_size(size):
                    found = parting(Machine(one), Machine(other))
                    self.assertEqual(found is None, is_over(one, other))
                    if found is not None:
                        kept.setdefault(found.steps, (one, other))
                        self.assertIs(enough(found, Machine(other)), True)
                        self.assertIs(enough(found, Machine(one)), False)
        for one, other in kept.values():
            self.check(one, other)

    def test_belts_in_other_orders(self):
        for one, other in (((1, 1, 2), (3, 1)), ((1, 3), (2, 2)), ((2, 1, 2), (1, 4)), ((4, 1), (1, 2, 2)),
                           ((1, 1, 1, 2, 2), (2, 1, 2, 2)), ((1, 6), (3, 1, 3)), ((2, 3, 2), (2, 2, 2, 1))):
            self.check(one, other)

    def test_equal_calls(self):
        first = parting(Machine((1, 1)), Machine((2,)))
        self.assertTrue(parting(Machine((1, 1)), Machine((2,))) == first)
        machine = Machine((2, 1))
        parting(Machine((3,)), machine)
        self.assertEqual(machine.belts, (2, 1))


if __name__ == "__main__":
    unittest.main()
