import unittest

from fullbelts.codes import Code
from fullbelts.errors import BadCode
from fullbelts.machines import Machine
from fullbelts.programs import Program
from fullbelts.webs import goal
from reckoning import many_codes, ways
from samples import c, check_unchanged, forms, grown_ring, odd_things, raised, reads, s

MACHINE = Machine((2, 1))

# For forms() on MACHINE: 6 and 7 are not reached, 1 reads a name twice, 3 and 5 read nothing, 0 only makes.
ROOMS = {1: ((0, 0), (1, 0)), 2: ((0, 1),), 4: ((1, 0),), 6: ((0, 0),), 7: ((0, 1),)}
BELTS = {0: 0, 1: 1, 6: 0}
CARRIES = {(2, 1): (((0, 1), 1), ((1, 0), 0)), (7, 0): (((0, 0), 0),)}


def part(rooms, belts, carries):
    """The part of the error, or None if this is a code."""
    error = raised(Code, forms(), MACHINE, rooms, belts, carries)
    if error is None:
        return None
    assert type(error) is BadCode, error
    return error.part


def with_one(table, key, value):
    return {**table, key: value}


def without(table, key):
    return {other: table[other] for other in table if other != key}


def is_room(thing):
    return type(thing) is tuple and [type(part) for part in thing] == [int, int] and thing in ((0, 0), (0, 1), (1, 0))


class Right(unittest.TestCase):
    def test_what_it_keeps(self):
        program = forms()
        code = Code(program, MACHINE, ROOMS, BELTS, CARRIES)
        self.assertTrue(code.program == program)
        self.assertTrue(code.machine == MACHINE)
        self.assertEqual((code.rooms, code.belts, code.carries), (ROOMS, BELTS, CARRIES))
        self.assertEqual([type(part) for part in (code.program, code.machine, code.rooms, code.belts, code.carries)],
                         [Program, Machine, dict, dict, dict])

    def test_a_program_that_neither_reads_nor_makes(self):
        for steps in ((("end",),), (("go", 0),)):
            code = Code(Program(steps), MACHINE, {}, {}, {})
            self.assertEqual((code.rooms, code.belts, code.carries), ({}, {}, {}))

    def test_ways_without_carries_are_left_out(self):
        code = Code(forms(), MACHINE, ROOMS, BELTS, {**CARRIES, (0, 0): (), (2, 0): (), (3, 0): ()})
        self.assertEqual(code.carries, CARRIES)
        self.assertTrue(code == Code(forms(), MACHINE, ROOMS, BELTS, CARRIES))

    def test_all_ways_may_have_carries(self):
        carries = {way: (((0, 0), 0),) for way in ways(forms())}
        self.assertEqual(Code(forms(), MACHINE, ROOMS, BELTS, carries).carries, carries)

    def test_a_thousand_carries(self):
        row = (((0, 1), 0),) * 1000
        self.assertIsNone(part(ROOMS, BELTS, {(0, 0): row}))
        self.assertEqual(part(ROOMS, BELTS, {(0, 0): row + row[:1]}), "carries")

    def test_any_order_of_the_keys(self):
        def turned(table):
            return {key: table[key] for key in reversed(list(table))}
        code = Code(forms(), MACHINE, turned(ROOMS), turned(BELTS), turned(CARRIES))
        self.assertTrue(code == Code(forms(), MACHINE, ROOMS, BELTS, CARRIES))

    def test_it_keeps_copies(self):
        rooms, belts, carries = dict(ROOMS), dict(BELTS), dict(CARRIES)
        code = Code(forms(), MACHINE, rooms, belts, carries)
        self.assertEqual((rooms, belts, carries), (ROOMS, BELTS, CARRIES))
        rooms[1] = ((0, 1), (0, 1))
        belts.clear()
        carries[(0, 0)] = (((0, 0), 0),)
        self.assertEqual((code.rooms, code.belts, code.carries), (ROOMS, BELTS, CARRIES))

    def test_new_dicts_each_time(self):
        code = Code(forms(), MACHINE, ROOMS, BELTS, CARRIES)
        self.assertIsNot(code.rooms, code.rooms)
        self.assertIsNot(code.belts, code.belts)
        self.assertIsNot(code.carries, code.carries)
        code.rooms.clear()
        code.belts[0] = 9
        code.carries[(0, 0)] = ()
        self.assertEqual((code.rooms, code.belts, code.carries), (ROOMS, BELTS, CARRIES))

    def test_more_than_forty_places(self):
        program = grown_ring(self, 900)
        rooms = {place: ((0, 0),) for place in range(1, 901)}
        code = Code(program, Machine((1,)), rooms, {0: 0}, {(900, 1): (((0, 0), 0),)})
        self.assertEqual(code.rooms, rooms)
        self.assertIs(type(raised(Code, program, Machine((1,)), without(rooms, 900), {0: 0}, {})), BadCode)


class Wrong(unittest.TestCase):
    def test_keys_of_rooms(self):
        for place in ROOMS:
            self.assertEqual(part(without(ROOMS, place), BELTS, CARRIES), "rooms")
            self.assertEqual(part(with_one(without(ROOMS, place), 3, ((0, 0),)), BELTS, CARRIES), "rooms")
        for place in (0, 3, 5, 8, -1, "1", None, (1,), (1, 0)):
            self.assertEqual(part(with_one(ROOMS, place, ()), BELTS, CARRIES), "rooms")
            self.assertEqual(part(with_one(ROOMS, place, ((0, 0),)), BELTS, CARRIES), "rooms")
        self.assertEqual(part({}, BELTS, CARRIES), "rooms")

    def test_rooms_of_readings(self):
        for rooms in ((), ((0, 0), (0, 0)), [(0, 0)], ([0, 0],), (0, 0), ((0, 2),), ((1, 1),), ((2, 0),), ((-1, 0),),
                      ((0, -1),), ((True, 0),), ((False, 0),), ((0, True),), ((0, False),), ((0,),), ((0, 0, 0),),
                      (0,), (None,), None, "00", {0: (0, 0)}, ((10 ** 59, 0),), ((0, 10 ** 59),), (("0", 0),)):
            for place in (2, 4, 6, 7):
                self.assertEqual(part(with_one(ROOMS, place, rooms), BELTS, CARRIES), "rooms", rooms)
        for rooms in (((0, 0),), ((0, 0), (0, 0), (0, 0)), ((0, 0), (0, 2)), ((1, 1), (0, 0)), [(0, 0), (0, 0)]):
            self.assertEqual(part(with_one(ROOMS, 1, rooms), BELTS, CARRIES), "rooms", rooms)
        self.assertIsNone(part(with_one(ROOMS, 1, ((0, 0), (0, 0))), BELTS, CARRIES))

    def test_keys_of_belts(self):
        for place in BELTS:
            self.assertEqual(part(ROOMS, without(BELTS, place), CARRIES), "belts")
            self.assertEqual(part(ROOMS, with_one(without(BELTS, place), 2, 0), CARRIES), "belts")
        for place in (2, 3, 5, 7, 8, -1, "1", None, (1,)):
            self.assertEqual(part(ROOMS, with_one(BELTS, place, 0), CARRIES), "belts")
        self.assertEqual(part(ROOMS, {}, CARRIES), "belts")

    def test_belts_of_makes(self):
        for belt in (2, 3, -1, -2, True, False, 10 ** 59, "0", None, (0,), [0], (0, 0), b"0", {}):
            for place in BELTS:
                self.assertEqual(part(ROOMS, with_one(BELTS, place, belt), CARRIES), "belts", belt)

    def test_ways_of_carries(self):
        row = (((0, 0), 0),)
        for way in ((2, 3), (5, 0), (0, 1), (8, 0), (-1, 0), (0, -1), 0, "00", None, (0,), (0, 0, 0), ("0", 0),
                    ((0, 0), 0), (10 ** 59, 0), b"x", len, int, Code):
            self.assertEqual(part(ROOMS, BELTS, with_one(CARRIES, way, row)), "carries", way)
            self.assertEqual(part(ROOMS, BELTS, with_one(CARRIES, way, ())), "carries", way)

    def test_carries_of_ways(self):
        for row in ([], [((0, 0), 0)], (((0, 2), 0),), (((1, 1), 0),), (((2, 0), 0),), (((0, 0), 2),), (((0, 0), -1),),
                    (((0, 0), True),), (((True, 0), 0),), (((0, False), 0),), ([(0, 0), 0],), (([0, 0], 0),), (0,),
                    (((0, 0),),), (((0, 0), 0, 0),), ((0, 0), 0), None, 0, "", {}, (((0, 0), 0), None), (None,) * 1001):
            self.assertEqual(part(ROOMS, BELTS, with_one(CARRIES, (3, 0), row)), "carries", row)
        self.assertIsNone(part(ROOMS, BELTS, {}))

    def test_the_first_part_is_told(self):
        for rooms in (ROOMS, {}, None, [], without(ROOMS, 7)):
            for belts in (BELTS, {}, None, [], without(BELTS, 6)):
                for carries in (CARRIES, {9: ()}, None, [], {(0, 0): []}):
                    wrong = [name for name, given, right in (
                        ("rooms", rooms, ROOMS), ("belts", belts, BELTS), ("carries", carries, CARRIES))
                             if given is not right]
                    self.assertEqual(part(rooms, belts, carries), wrong[0] if wrong else None)

    def test_any_thing(self):
        for thing in odd_things():
            self.assertEqual(part(thing, BELTS, CARRIES), "rooms")
            self.assertEqual(part(ROOMS, thing, CARRIES), "belts")
            if type(thing) is not dict or len(thing) > 0:
                self.assertEqual(part(ROOMS, BELTS, thing), "carries")
            self.assertEqual(part(with_one(ROOMS, 2, thing), BELTS, CARRIES), "rooms")
            expected = None if is_room(thing) else "rooms"
            self.assertEqual(part(with_one(ROOMS, 2, (thing,)), BELTS, CARRIES), expected)
            self.assertEqual(part(with_one(ROOMS, 1, ((0, 0), thing)), BELTS, CARRIES), expected)
            expected = None if type(thing) is int and thing in (0, 1) else "belts"
            self.assertEqual(part(ROOMS, with_one(BELTS, 6, thing), CARRIES), expected)
            expected = None if type(thing) is tuple and len(thing) == 0 else "carries"
            self.assertEqual(part(ROOMS, BELTS, with_one(CARRIES, (7, 1), thing)), expected)
            expected = None if type(thing) is tuple and thing == ((0, 0), 0) else "carries"
            self.assertEqual(part(ROOMS, BELTS, with_one(CARRIES, (7, 1), (((0, 1), 0), thing))), expected)

    def test_any_key(self):
        for thing in odd_things():
            try:
                table = {thing: ()}
            except TypeError:
                continue
            known = type(thing) in (int, tuple) and thing in (0, 1, 2, 4, 6, 7, (0, 0), (0, 1), (2, 0), (0, True))
            if type(thing) is not bool and not (type(thing) is tuple and bool in [type(part) for part in thing]):
                self.assertEqual(part({**ROOMS, **table}, BELTS, CARRIES), "rooms")
                self.assertEqual(part(ROOMS, {**BELTS, **table}, CARRIES), "belts")
                if not known:
                    self.assertEqual(part(ROOMS, BELTS, {**CARRIES, **table}), "carries")

    def test_nothing_passed_is_changed(self):
        check_unchanged(self, lambda thing: part(thing, BELTS, CARRIES))
        check_unchanged(self, lambda thing: part(ROOMS, thing, CARRIES))
        check_unchanged(self, lambda thing: part(ROOMS, BELTS, thing))
        check_unchanged(self, lambda thing: part({place: thing for place in ROOMS}, BELTS, CARRIES))
        check_unchanged(self, lambda thing: part(ROOMS, BELTS, {(0, 0): thing}))


class Equality(unittest.TestCase):
    def test_equal_just_if_all_five_are(self):
        codes = [
            Code(forms(), MACHINE, ROOMS, BELTS, CARRIES),
            Code(forms(), Machine((2, 2)), ROOMS, BELTS, CARRIES),
            Code(forms(), MACHINE, with_one(ROOMS, 7, ((0, 0),)), BELTS, CARRIES),
            Code(forms(), MACHINE, ROOMS, with_one(BELTS, 6, 1), CARRIES),
            Code(forms(), MACHINE, ROOMS, BELTS, with_one(CARRIES, (3, 0), (((0, 0), 0),))),
            Code(forms(), MACHINE, ROOMS, BELTS, {}),
            Code(Program(forms().steps[:7] + (("test", "a", (6, 1)),)), MACHINE, ROOMS, BELTS, CARRIES), c()]
        for one, first in enumerate(codes):
            again = Code(first.program, first.machine, first.rooms, first.belts, first.carries)
            self.assertTrue(first == again)
            self.assertFalse(first != again)
            for other, second in enumerate(codes):
                self.assertEqual(first == second, one == other)
                self.assertEqual(first != second, one != other)

    def test_equal_to_no_thing_of_another_class(self):
        class Likeness:
            program, machine, rooms, belts, carries = s(), Machine((2,)), c().rooms, c().belts, {}
        for thing in [Likeness(), s(), *odd_things()]:
            if type(thing) is not Code:
                self.assertFalse(c() == thing)
                self.assertFalse(thing == c())
                self.assertTrue(c() != thing)

    def test_many_codes(self):
        for code in many_codes(100):
            again = Code(code.program, code.machine, code.rooms, code.belts, code.carries)
            self.assertTrue(code == again)
            self.assertEqual(set(code.rooms), {place for place, step in enumerate(code.program.steps) if reads(step)})
            self.assertTrue(all(goal(code.program, way) is not None for way in code.carries))


if __name__ == "__main__":
    unittest.main()
