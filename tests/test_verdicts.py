import unittest

from fullbelts.denials import denial, is_denial
from fullbelts.machines import Machine
from fullbelts.programs import Program
from fullbelts.seatings import is_seating, seating
from fullbelts.tables import table
from fullbelts.verdicts import enough
from reckoning import many_codes
from samples import c, faultless_programs, grown, s
from tried import some_code_is_right
from turners import (
    AT_A_MAKE, BOTH, FORKED, ITSELF, LONE, NOWHERE, SEVEN, SIX, apart, changed_turners, random_turners, turner_of,
    wide)
from turning import belts_of_size, shapes_of_size, slow_enough, slow_need

PROGRAMS = changed_turners(120, 21) + random_turners(5, 60, 23)

SMALL = [program for program in (LONE, NOWHERE, AT_A_MAKE, BOTH, FORKED, ITSELF, s(), *faultless_programs(40),
                                 *changed_turners(120, 21)[:40]) if 1 <= slow_need(program) <= 3]


def sizes(most):
    """Belts of one shape or more of each size."""
    return [belts for size in range(1, most + 1) for belts in shapes_of_size(size)]


class Enough(unittest.TestCase):
    def test_samples(self):
        self.assertIs(enough(s(), Machine((2,))), True)
        self.assertIs(enough(s(), Machine((1, 1))), False)
        self.assertIs(enough(s(), Machine((1, 1, 1))), True)
        self.assertIs(enough(s(), Machine((1,))), False)

    def test_less_as_many_and_more_rooms(self):
        for program in PROGRAMS:
            least = slow_need(program)
            for belts in [belts for size in (least - 1, least, least + 1) if size > 0 for belts in belts_of_size(size)]:
                found = enough(program, Machine(belts))
                if sum(belts) == least:
                    self.assertIs(found, slow_enough(program, belts))
                else:
                    self.assertIs(found, sum(belts) > least)

    def test_codes_tried_one_by_one(self):
        told = {True: 0, False: 0}
        for program in SMALL:
            for belts in sizes(3):
                machine = Machine(belts)
                right = some_code_is_right(program, machine)
                told[right] += 1
                self.assertIs(enough(program, machine), right, (program.steps, belts))
        self.assertGreater(min(told.values()), 50)

    def test_where_a_code_is_right_the_machine_is_enough(self):
        many = 0
        for code in [c(), *many_codes(300)]:
            if table(code) is not None and slow_need(code.program) > 0:
                many += 1
                self.assertIs(enough(code.program, code.machine), True)
        self.assertGreater(many, 100)

    def test_papers_agree(self):
        for program in PROGRAMS:
            for belts in belts_of_size(slow_need(program)):
                machine = Machine(belts)
                found, denied = seating(program, machine), denial(program, machine)
                self.assertEqual((found is None, denied is None), ((False, True) if enough(program, machine)
                                                                   else (True, False)))
                self.assertTrue(found is None or is_seating(program, machine, found))
                self.assertTrue(denied is None or is_denial(program, machine, denied))

    def test_the_order_of_belts_is_the_same(self):
        for program in PROGRAMS[:60]:
            for belts in belts_of_size(slow_need(program)):
                self.assertIs(enough(program, Machine(belts)), enough(program, Machine(tuple(sorted(belts)))))

    def test_programs_without_a_full_place(self):
        for belts, right in (((1,), False), ((2,), True), ((1, 1), True), ((3,), True)):
            self.assertIs(enough(NOWHERE, Machine(belts)), right)

    def test_need_one(self):
        for belts in ((1,), (2,), (1, 1), (8, 4), (2,) * 6):
            self.assertIs(enough(LONE, Machine(belts)), True)

    def test_need_six_and_seven(self):
        for program, least in ((SIX, 6), (SEVEN, 7)):
            for belts in sizes(9):
                self.assertIs(enough(program, Machine(belts)), sum(belts) > least)
        program = turner_of("badcfeg")
        for belts in shapes_of_size(7):
            right = belts in ((2, 2, 2, 1), (4, 2, 1), (6, 1))
            self.assertIs(enough(program, Machine(belts)), right)

    def test_several_pieces(self):
        program = apart([turner_of("bacd"), turner_of("badc")])
        for belts in belts_of_size(4):
            self.assertIs(enough(program, Machine(belts)), belts == (2, 2))

    def test_more_than_forty_places(self):
        program = grown(self, wide(2000))
        for belts, right in (((2,), True), ((1, 1), False), ((1, 1, 1), True), ((1,), False)):
            self.assertIs(enough(program, Machine(belts)), right)

    def test_equal_calls_and_unchanged_programs(self):
        for program in PROGRAMS[:60]:
            steps = program.steps
            for belts in belts_of_size(slow_need(program)):
                self.assertIs(enough(program, Machine(belts)), enough(Program(steps), Machine(belts)))
            self.assertEqual(program.steps, steps)


if __name__ == "__main__":
    unittest.main()
