import random
import unittest

from fullbelts.codes import Code
from fullbelts.machines import Machine
from fullbelts.programs import Program
from fullbelts.refuting import is_refutation, refutation
from fullbelts.tables import is_table, table
from reckoning import held, is_right, many_codes, readings, refutes
from samples import c, check_unchanged, goals, grown_ring, odd_things

CODES = many_codes(300)


def with_rooms(code, rooms):
    return Code(code.program, code.machine, {**code.rooms, **rooms}, code.belts, code.carries)


# On one belt of two rooms x moves on each time that y is made anew; z never is made, 5 is not reached.
MOVING = Code(
    Program((("make", "x", (), 1), ("make", "y", ("x", "x"), 2), ("test", "x", (1, 3)), ("tell", "y", 4), ("end",),
             ("tell", "z", 0))),
    Machine((2,)), {1: ((0, 0), (0, 0)), 2: ((0, 1),), 3: ((0, 0),), 5: ((0, 0),)}, {0: 0, 1: 0}, {})


class Refutations(unittest.TestCase):
    def test_a_right_code(self):
        self.assertIsNone(refutation(c()))

    def test_many_codes(self):
        for code in CODES:
            found = refutation(code)
            self.assertEqual(found is None, is_right(code))
            self.assertEqual(found is None, table(code) is not None)
            if found is not None:
                self.assertIs(type(found), tuple)
                self.assertEqual([type(part) for part in found], [tuple, int])
                self.assertTrue(refutes(code, found))
                self.assertIs(is_refutation(code, found), True)

    def test_judging_many(self):
        rng = random.Random(9)
        judged = {True: 0, False: 0}
        for code in CODES:
            for _ in range(12):
                route, place = [], 0
                for _ in range(rng.randrange(14)):
                    ahead = goals(code.program.steps[place])
                    if ahead:
                        route.append(rng.randrange(len(ahead)))
                        place = ahead[route[-1]]
                for index in (0, 1, 2, -1):
                    right = refutes(code, (tuple(route), index))
                    judged[right] += 1
                    self.assertIs(is_refutation(code, (tuple(route), index)), right)
        self.assertGreater(min(judged.values()), 500)

    def test_the_first_fact(self):
        for code in CODES:
            self.assertNotEqual(table(code) is None, refutation(code) is None)
            self.assertEqual(is_table(code, held(code)), refutation(code) is None)

    def test_a_code_that_goes_wrong_the_second_time_round(self):
        self.assertIsNone(table(MOVING))
        found = refutation(MOVING)
        self.assertTrue(refutes(MOVING, found))
        for thing, right in ((((0, 0, 0), 0), True), (((0, 0, 0), 1), True), (((0,), 0), False), (((0,), 1), False),
                             (((0, 0), 0), False), (((0, 0, 0, 0), 0), True), (((0, 0, 1), 0), False)):
            self.assertIs(is_refutation(MOVING, thing), right, thing)

    def test_another_result_of_the_same_name(self):
        # The room of the tell has x all the same, but the elder result.
        program = Program((("make", "x", (), 1), ("make", "x", (), 2), ("tell", "x", 3), ("end",)))
        for room, right in (((0, 0), True), ((0, 1), False)):
            code = Code(program, Machine((2,)), {2: (room,)}, {0: 0, 1: 0}, {})
            self.assertEqual(refutation(code) is None, right)
            self.assertIs(is_refutation(code, ((0, 0), 0)), not right)

    def test_the_second_reading(self):
        program = Program((("make", "x", (), 1), ("make", "y", ("x", "x"), 2), ("end",)))
        code = Code(program, Machine((1, 1)), {1: ((0, 0), (1, 0))}, {0: 0, 1: 1}, {})
        self.assertEqual(refutation(code), ((0,), 1))
        self.assertIs(is_refutation(code, ((0,), 1)), True)
        self.assertIs(is_refutation(code, ((0,), 0)), False)

    def test_right_straight_on_and_wrong_by_a_detour(self):
        # Behind the make all is right; only round the ring, some steps back, y takes the room of x.
        program = Program((("make", "w", (), 1), ("make", "x", (), 2), ("test", "x", (3, 6)), ("make", "y", (), 4),
                           ("go", 5), ("go", 2), ("tell", "w", 7), ("end",)))
        for lengths, belts in (((1, 1), {0: 1, 1: 0, 3: 0}), ((1, 2), {0: 1, 1: 0, 3: 0})):
            code = Code(program, Machine(lengths), {2: ((0, 0),), 6: ((1, 0),)}, belts, {})
            found = refutation(code)
            self.assertTrue(refutes(code, found))
            self.assertIs(is_refutation(code, ((0, 0), 0)), False)
            self.assertIs(is_refutation(code, ((0,) * 6, 0)), True)

    def test_one_way_of_some_that_are_alike(self):
        program = Program((("make", "x", (), 1), ("test", "x", (2, 2, 2)), ("tell", "x", 3), ("end",)))
        code = Code(program, Machine((1, 1)), {1: ((0, 0),), 2: ((0, 0),)}, {0: 0}, {(1, 1): (((1, 0), 0),)})
        self.assertEqual(refutation(code), ((0, 1), 0))
        for number in range(3):
            self.assertIs(is_refutation(code, ((0, number), 0)), number == 1)

    def test_places_that_are_not_reached_refute_nothing(self):
        program = Program((("end",), ("make", "x", (), 2), ("tell", "x", 0)))
        code = Code(program, Machine((1, 1)), {2: ((1, 0),)}, {1: 0}, {})
        self.assertIsNone(refutation(code))
        self.assertIs(is_refutation(code, ((), 0)), False)

    def test_numbers_of_readings(self):
        wrong = with_rooms(c(), {7: ((0, 1),)})
        route = (0, 0, 1, 0)
        self.assertIs(is_refutation(wrong, (route, 0)), True)
        for index in (1, 2, -1, True, False, 10 ** 59, -10 ** 59, "0", None, (0,), [0], b"0"):
            self.assertIs(is_refutation(wrong, (route, index)), False)
        for place_route in ((), (0,), (0, 0, 1, 0, 0)):
            for index in (0, -1, 1, None):
                self.assertIs(is_refutation(wrong, (place_route, index)), False)

    def test_what_is_no_refutation(self):
        wrong = with_rooms(c(), {7: ((0, 1),)})
        route = (0, 0, 1, 0)
        for thing in ([route, 0], (list(route), 0), (route,), (route, 0, 0), (0, route), route, (), None, 0,
                      ((0, 0, 2, 0), 0), ((0, 0, True, 0), 0), ((False, 0, 1, 0), 0), ((0, 0, 1, -1), 0),
                      (route + (0, 0), 0), ("0010", 0), ({}, 0), {0: route, 1: 0}, (None, 0), (route[:3], 0)):
            self.assertIs(is_refutation(wrong, thing), False, thing)

    def test_any_thing_is_judged(self):
        for code in (c(), MOVING):
            for thing in odd_things():
                for made in (thing, (thing, 0), ((0, 0, 0), thing), (thing, thing), ((0, 0, thing), 0)):
                    self.assertIs(is_refutation(code, made), refutes(code, made))
            check_unchanged(self, lambda thing: is_refutation(code, thing))
            check_unchanged(self, lambda thing: is_refutation(code, (thing, 0)))

    def test_long_routes(self):
        for many in (8000, 8001):
            self.assertIs(is_refutation(MOVING, ((0,) * many, 0)), True)
            self.assertIs(is_refutation(MOVING, ((0,) * many + (2,), 0)), False)
        self.assertIs(is_refutation(c(), ((0,) * 9000, 0)), False)
        self.assertIs(is_refutation(c(), ((0, 0) + (0, 0, 0, 0) * 2000 + (1,), 0)), False)
        wrong = with_rooms(c(), {7: ((0, 1),)})
        self.assertIs(is_refutation(wrong, ((0, 0) + (0, 0, 0, 0) * 2000 + (1, 0), 0)), True)

    def test_long_routes_with_a_thousand_carries_on_each_way(self):
        code = c()
        turn = (((0, 1), 0),) * 1000
        full = Code(code.program, code.machine, code.rooms, code.belts, {(place, 0): turn for place in range(8)})
        self.assertIsNone(refutation(full))
        self.assertIs(is_refutation(full, ((0,) * 5000, 0)), False)
        odd = Code(code.program, code.machine, code.rooms, code.belts, {(5, 0): turn[1:]})
        self.assertTrue(refutes(odd, refutation(odd)))

    def test_only_a_long_route_shows_it(self):
        # Seven results of one name are put in behind x: only the last room's item falls off, by the eighth.
        steps = (("make", "x", (), 1),) + tuple([("make", "y", (), at + 1) for at in range(1, 9)])
        program = Program(steps + (("tell", "x", 10), ("end",)))
        for many in range(8):
            carries = {(8, 0): (((0, many), 0),)}
            code = Code(program, Machine((8,)), {9: ((0, 0),)}, {at: 0 for at in range(9)}, carries)
            self.assertIs(is_refutation(code, ((0,) * 9, 0)), True)
            self.assertEqual(refutation(code), ((0,) * 9, 0))

    def test_more_than_forty_places(self):
        program = grown_ring(self, 900)
        rooms = {place: ((0, 0),) for place in range(1, 901)}
        code = Code(program, Machine((1, 1)), rooms, {0: 0}, {(900, 1): (((1, 0), 0),)})
        found = refutation(code)
        self.assertEqual(readings(code, found[0]), [False])
        self.assertIs(is_refutation(code, found), True)
        self.assertIs(is_refutation(code, ((0,) + (1,) * 899, 0)), False)
        code = Code(program, Machine((1, 1)), rooms, {0: 0}, {})
        self.assertIsNone(refutation(code))

    def test_equal_calls_and_unchanged_codes(self):
        for code in CODES[:100]:
            parts = (code.rooms, code.belts, code.carries)
            self.assertEqual(refutation(code), refutation(code))
            again = Code(code.program, code.machine, *parts)
            self.assertEqual(refutation(again), refutation(code))
            self.assertEqual(table(again), table(code))
            self.assertEqual((code.rooms, code.belts, code.carries), parts)


if __name__ == "__main__":
    unittest.main()
