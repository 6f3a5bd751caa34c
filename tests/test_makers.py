import random
import unittest

from fullbelts.codes import Code
from fullbelts.errors import BadMachine, NoSeating, NotRight, OtherSize, TooSmall
from fullbelts.machines import Machine
from fullbelts.makers import code_for, code_with, seats, spare_code
from fullbelts.programs import Program
from fullbelts.seatings import is_seating, seating
from fullbelts.tables import table
from fullbelts.verdicts import enough
from making import are_alike, check_by_states, check_right, cut_off, goes_right, slow_seatings, star, turned
from reckoning import many_codes
from samples import S_STEPS, c, check_unchanged, faultless_programs, grown, odd_things, raised, s
from turners import (
    AT_A_MAKE, BOTH, FORKED, ITSELF, LONE, NOWHERE, apart, changed_turners, random_turners, turner_of, wide)
from turning import belts_of_size, kind_raised, shapes_of_size, slow_enough, slow_full, slow_is_seating, slow_need

TWO, PLAIN = Machine((2,)), Machine((1, 1))

# A make whose result nobody wants, makes that read what they make, and an elder result that stands in a room.
UNWANTED = Program((("make", "x", (), 1), ("make", "w", ("x",), 2), ("make", "w", (), 3), ("make", "x", ("x", "x"), 4),
                    ("test", "x", (1, 5)), ("end",)))
ANEW = Program((("make", "x", (), 1), ("make", "y", (), 2), ("tell", "x", 3), ("make", "x", ("y",), 4),
                ("make", "y", ("y", "x"), 5), ("test", "y", (2, 6)), ("tell", "x", 7), ("end",)))

# Behind the end stand steps that are not reached: they read and make, and lead into the rings.
NOT_REACHED = cut_off(s(), (("make", "q", ("x", "q"), 1), ("tell", "q", 0), ("test", "y", (0, 1, 2))))
INTO = Program(S_STEPS + (("make", "x", ("x", "t"), 2), ("tell", "t", 3)))

# From full places to those that are not, by a make, a test and a tell, and back into the ring.
OUT_AND_BACK = Program((
    ("make", "a", (), 1), ("make", "b", (), 2), ("test", "a", (3, 6, 8)), ("make", "t", ("a",), 4),
    ("make", "a", ("b",), 5), ("make", "b", ("t",), 2), ("make", "a", ("a", "b"), 7), ("make", "b", (), 2),
    ("make", "w", (), 9), ("make", "b", ("w",), 10), ("make", "a", ("b",), 2)))

# 40 places: seven names in a ring of their own, and two rings more.
FORTY = Program(turner_of("bcdefga", "bacdefg").steps[:-1] + tuple(
    [("go", place) for place in range(28, 39)]) + (("end",),) * 2)

SAMPLES = [LONE, NOWHERE, AT_A_MAKE, BOTH, FORKED, ITSELF, s(), UNWANTED, ANEW, NOT_REACHED, INTO, OUT_AND_BACK,
           apart([s(), FORKED, BOTH]), apart([turner_of("bca"), turner_of("cab")]), turner_of("bacd"),
           star(["bcd" "a", "abcd"]), star(["bacd", "abdc"])]
PROGRAMS = SAMPLES + list(changed_turners(120, 21)[:60]) + list(random_turners(5, 60, 23)[:30])
SMALL = [program for program in [*faultless_programs(60), *PROGRAMS] if 1 <= slow_need(program) <= 3]


def around(program):
    """Belts of one room less than the need to two more."""
    least = slow_need(program)
    found = [belts for size in (least - 1, least) if size > 0 for belts in belts_of_size(size)]
    return found + shapes_of_size(least + 1) + shapes_of_size(least + 2)[-3:]


class CodeFor(unittest.TestCase):
    def test_samples(self):
        check_right(self, code_for(s(), TWO), s(), TWO)
        self.assertIsNone(code_for(s(), PLAIN))
        self.assertIsNone(code_for(s(), Machine((1,))))
        check_right(self, code_for(s(), Machine((1, 1, 1))), s(), Machine((1, 1, 1)))

    def test_many_programs_and_machines(self):
        told = {True: 0, False: 0}
        for program in PROGRAMS:
            least = slow_need(program)
            for belts in around(program):
                machine = Machine(belts)
                code = code_for(program, machine)
                right = sum(belts) > least or (sum(belts) == least and slow_enough(program, belts))
                self.assertIs(enough(program, machine), right)
                self.assertIs(code is not None, right)
                told[right] += 1
                if right:
                    check_right(self, code, program, machine, 1, 200)
        self.assertGreater(min(told.values()), 300)

    def test_by_all_that_the_rooms_may_hold(self):
        for program in SMALL:
            for belts in [belts for size in range(1, 5) for belts in shapes_of_size(size)]:
                code = code_for(program, Machine(belts))
                if code is not None:
                    check_by_states(self, code)

    def test_need_seven(self):
        for program in (turner_of("bcdefga"), turner_of("badcfeg"), star(["bcdefga", "abcdefg"]), FORTY):
            self.assertEqual(slow_need(program), 7)
            for belts in [*shapes_of_size(7), *shapes_of_size(8)[-3:], (8, 4), (2,) * 6, (7, 1, 1, 1, 1, 1)]:
                machine = Machine(belts)
                code = code_for(program, machine)
                self.assertIs(code is not None, sum(belts) > 7 or slow_enough(program, belts))
                if code is not None:
                    check_right(self, code, program, machine, 1, 400)
        self.assertEqual(len(FORTY.steps), 40)

    def test_places_that_are_not_reached_have_rooms_and_belts(self):
        for program in (NOT_REACHED, INTO):
            for machine in (TWO, Machine((1, 1, 1)), Machine((1, 2, 3))):
                code = code_for(program, machine)
                check_right(self, code, program, machine)
                self.assertIn(9, code.rooms)
                self.assertIn(9, code.belts)

    def test_more_than_forty_places(self):
        program = grown(self, wide(1500))
        for machine in (TWO, Machine((1, 2))):
            check_right(self, code_for(program, machine), program, machine, 1, 4000)
        self.assertIsNone(code_for(program, PLAIN))

    def test_equal_calls_and_changed_answers(self):
        for program in PROGRAMS[:20]:
            for belts in shapes_of_size(slow_need(program)):
                code = code_for(program, Machine(belts))
                self.assertTrue(code == code_for(Program(program.steps), Machine(belts)))
                if code is not None:
                    for spoilt in (code.rooms, code.belts, code.carries):
                        spoilt.clear()
                    self.assertTrue(code == code_for(program, Machine(belts)))


class CodeWith(unittest.TestCase):
    def test_the_rounds_of_all_seatings(self):
        rng = random.Random(1)
        many = 0
        for program in PROGRAMS:
            for belts in belts_of_size(slow_need(program)):
                machine = Machine(belts)
                for seated in slow_seatings(program, belts, 4):
                    for thing in (seated, turned(rng, seated)):
                        many += 1
                        code = code_with(program, machine, thing)
                        check_right(self, code, program, machine, 1, 200)
                        found = table(code)
                        self.assertTrue(are_alike(thing, {place: found[place] for place in slow_full(program)}))
                        self.assertTrue(are_alike(thing, seats(code)))
        self.assertGreater(many, 500)

    def test_no_place_is_full(self):
        for machine in (TWO, PLAIN):
            check_right(self, code_with(NOWHERE, machine, {}), NOWHERE, machine)
            self.assertEqual(seats(code_with(NOWHERE, machine, {})), {})
            self.assertIs(kind_raised(code_with, NOWHERE, machine, {0: (("x", "y"),)}), NoSeating)

    def test_no_seating(self):
        right = seating(s(), TWO)
        for thing in ({}, {**right, 7: (("x", "y"),)}, {**right, 3: (("x", "t"),)}, list(right.items()), [right],
                      {place: list(right[place]) for place in right}, {place: (list(right[place][0]),) for place in right},
                      {place: right[place] for place in right if place != 4}):
            self.assertIs(kind_raised(code_with, s(), TWO, thing), NoSeating)
        wrong = {**seating(BOTH, PLAIN), 3: tuple(reversed(seating(BOTH, PLAIN)[3]))}
        self.assertFalse(slow_is_seating(BOTH, (1, 1), wrong))
        self.assertIs(kind_raised(code_with, BOTH, PLAIN, wrong), NoSeating)

    def test_any_thing(self):
        right = seating(s(), TWO)
        for thing in odd_things():
            for made in (thing, {**right, 2: thing}, {2: thing}):
                self.assertIs(kind_raised(code_with, s(), TWO, made), NoSeating)
                self.assertIs(kind_raised(code_with, s(), Machine((1, 2)), made), OtherSize)
                self.assertIs(kind_raised(code_with, s(), Machine((1,)), made), OtherSize)
        check_unchanged(self, lambda thing: raised(code_with, s(), TWO, thing))

    def test_nothing_is_kept_of_what_was_passed(self):
        right = seating(s(), TWO)
        kept = dict(right)
        code = code_with(s(), TWO, right)
        self.assertEqual(right, kept)
        right.clear()
        self.assertTrue(code == code_with(s(), TWO, {place: kept[place] for place in reversed(list(kept))}))
        self.assertTrue(are_alike(kept, seats(code)))


class Seats(unittest.TestCase):
    def test_samples(self):
        self.assertEqual(seats(c()), {2: (("y", "x"),), 3: (("y", "x"),), 4: (("t", "y"),), 5: (("x", "t"),),
                                      6: (("y", "x"),)})

    def test_many_codes(self):
        right, wrong, other = 0, 0, 0
        for code in many_codes(300):
            least = slow_need(code.program)
            if least > 0 and code.machine.size != least:
                other += 1
                self.assertIs(kind_raised(seats, code), OtherSize)
            elif least > 0 and table(code) is None:
                wrong += 1
                self.assertIs(kind_raised(seats, code), NotRight)
            elif least > 0:
                right += 1
                found = seats(code)
                self.assertEqual(found, {place: table(code)[place] for place in slow_full(code.program)})
                self.assertTrue(slow_is_seating(code.program, code.machine.belts, found))
                self.assertIs(is_seating(code.program, code.machine, found), True)
        self.assertGreater(min(right, wrong, other), 10)

    def test_other_size_first(self):
        for belts in ((1,), (3,), (1, 2)):
            rooms = {place: ((0, 0),) for place in range(2, 8)}
            code = Code(s(), Machine(belts), rooms, {0: 0, 1: 0, 3: 0, 4: 0, 5: 0}, {})
            self.assertIs(kind_raised(seats, code), OtherSize)
        self.assertIs(kind_raised(seats, code_for(s(), Machine((1, 2)))), OtherSize)

    def test_changed_answers(self):
        code = c()
        first = seats(code)
        kept = dict(first)
        first.clear()
        self.assertEqual(seats(code), kept)
        self.assertTrue(code == c())


class SpareCode(unittest.TestCase):
    def test_one_room_to_spare(self):
        for program in PROGRAMS:
            for belts in belts_of_size(slow_need(program) + 1):
                machine = Machine(belts)
                code = spare_code(program, belts)
                self.assertIsNotNone(table(code))
                self.assertTrue(code.machine == machine and code.program == program)
                self.assertTrue(goes_right(random.Random(1), code, 150))

    def test_more_rooms(self):
        for program in PROGRAMS:
            for belts in ((8, 4), (1, 8, 1, 1), (2,) * 6, (1,) * 6, (7,), (7, 1, 1, 1, 1, 1)):
                if sum(belts) > slow_need(program):
                    check_right(self, spare_code(program, belts), program, Machine(belts), 1, 200)

    def test_bad_machines(self):
        for program in (s(), LONE, turner_of("bcdefga")):
            for belts in ((), (0,), (9,), (8, 5), (1,) * 7, [3], (True, 2), (3, "1"), Machine((3,)), None, 3, ((3,),),
                          (2, -1), (2, True)):
                self.assertIs(kind_raised(spare_code, program, belts), BadMachine)
            for thing in odd_things():
                for belts in ((thing,), (8, thing), (1, thing)):
                    expected = BadMachine
                    if type(thing) is int and thing in (1, 2):
                        expected = None if sum(belts) > slow_need(program) else TooSmall
                    self.assertIs(kind_raised(spare_code, program, belts), expected)
        check_unchanged(self, lambda thing: raised(spare_code, s(), thing))

    def test_too_small(self):
        for program in PROGRAMS:
            least = slow_need(program)
            for belts in [belts for size in range(1, least + 1) for belts in shapes_of_size(size)]:
                error = raised(spare_code, program, belts)
                self.assertIs(type(error), TooSmall)
                self.assertEqual(error.least, least + 1)


if __name__ == "__main__":
    unittest.main()
