import random
import unittest

from fullbelts.errors import NoName, NoPlace, NoRoute, NoWay
from fullbelts.programs import Program
from fullbelts.webs import fault_route, faults, goal, is_fault_route, led, reached, route_to
from samples import (
    all_faults, check_unchanged, forms, goals, grown_ring, is_name, least_route, leads, names, odd_things,
    places_of_route, raised, random_programs, reached_places, reads, ring, s, shows)

FAULTY = Program((("test", "x", (1, 2)), ("make", "x", (), 2), ("tell", "x", 3), ("end",)))
PROGRAMS = [s(), forms(), FAULTY] + random_programs(300)

# All is faulty here but the readings of x: y is read where it is made, z never is made; 5 and 6 are not reached.
LOOP = Program((("make", "x", ("y", "z"), 1), ("make", "y", ("y", "x"), 2), ("test", "x", (3, 1)), ("tell", "z", 4),
                ("tell", "y", 2), ("tell", "x", 6), ("go", 5)))


def is_place(program, thing):
    return type(thing) is int and 0 <= thing < len(program.steps)


def is_pair_of_integers(thing):
    return type(thing) is tuple and [type(part) for part in thing] == [int, int]


def routes(rng, program, place, many):
    """Routes from the place, and some tuples that are none."""
    for _ in range(many):
        route, at = [], place
        for _ in range(rng.randrange(8)):
            ahead = goals(program.steps[at])
            if not ahead:
                break
            route.append(rng.randrange(len(ahead)))
            at = ahead[route[-1]]
        yield tuple(route)
        if route and rng.randrange(2):
            route[rng.randrange(len(route))] = rng.choice((0, 1, 2, 3, -1, True, False, None, "0"))
            yield tuple(route)


class Ways(unittest.TestCase):
    def test_goals_of_all_ways(self):
        for program in PROGRAMS:
            for place, step in enumerate(program.steps):
                for number, ahead in enumerate(goals(step)):
                    self.assertEqual(goal(program, (place, number)), ahead)
                self.assertIs(type(raised(goal, program, (place, len(goals(step))))), NoWay)

    def test_goals_that_are_alike(self):
        self.assertEqual([goal(forms(), (2, number)) for number in range(3)], [3, 3, 5])

    def test_what_is_no_way(self):
        for way in ((2, 3), (2, -1), (5, 0), (0, 1), (8, 0), (-1, 0), (2, True), (2, False), (True, 0), (False, 0),
                    [0, 0], (0,), (0, 0, 0), ("0", 0), (0, "0"), (10 ** 59, 0), (0, 10 ** 59), (None, None), ((), ())):
            self.assertIs(type(raised(goal, forms(), way)), NoWay, way)

    def test_any_thing(self):
        ways = [(place, number) for place, step in enumerate(forms().steps) for number in range(len(goals(step)))]
        for thing in odd_things():
            for way in (thing, (thing, 0), (2, thing), (thing, thing), (2, 0, thing)):
                if is_pair_of_integers(way) and way in ways:
                    self.assertEqual(goal(forms(), way), goals(forms().steps[way[0]])[way[1]])
                else:
                    self.assertIs(type(raised(goal, forms(), way)), NoWay)
        check_unchanged(self, lambda thing: raised(goal, forms(), thing))
        check_unchanged(self, lambda thing: raised(goal, forms(), (0, thing)))


class Routes(unittest.TestCase):
    def test_led(self):
        self.assertEqual(led(s(), 0, ()), 0)
        self.assertEqual(led(s(), 0, (0, 0, 0, 0, 0, 0, 1)), 6)
        self.assertEqual(led(s(), 4, (0, 0)), 2)
        self.assertEqual(led(s(), 8, ()), 8)
        self.assertEqual(led(forms(), 7, (0, 0, 0)), 6)

    def test_led_along_many_routes(self):
        rng = random.Random(5)
        for program in PROGRAMS[:150]:
            for place in range(len(program.steps)):
                for route in routes(rng, program, place, 6):
                    places = places_of_route(program, place, route)
                    if places is None:
                        self.assertIs(type(raised(led, program, place, route)), NoRoute)
                    else:
                        self.assertEqual(led(program, place, route), places[-1])

    def test_long_routes(self):
        program = ring(30)
        self.assertEqual(led(program, 0, (0, 0) + (0,) * 9000), 2)
        self.assertEqual(led(program, 0, (0, 0) + (0,) * 8999 + (1,)), 32)
        self.assertIs(type(raised(led, program, 0, (0, 0) + (0,) * 9000 + (1,))), NoRoute)

    def test_what_is_no_route(self):
        for route in ([], [0], (1,), (-1,), (True,), (False,), (0, 0, True), (0, 0, 2), ("0",), (None,), ((0,),),
                      (0, 0, 1, 0, 0, 0), (10 ** 59,), 0, "", "0", {}, {0: 0}, range(1), None):
            self.assertIs(type(raised(led, s(), 0, route)), NoRoute, route)
        self.assertIs(type(raised(led, s(), 8, (0,))), NoRoute)

    def test_any_thing_as_a_route(self):
        for thing in odd_things():
            if places_of_route(forms(), 2, thing) is None:
                self.assertIs(type(raised(led, forms(), 2, thing)), NoRoute)
            else:
                self.assertEqual(led(forms(), 2, thing), places_of_route(forms(), 2, thing)[-1])
        check_unchanged(self, lambda thing: raised(led, forms(), 2, thing))

    def test_what_is_no_place(self):
        for place in (9, -1, -9, True, False, 10 ** 59, "0", None, (0,), [0], {}):
            for route in ((), (7,), [], None):
                self.assertIs(type(raised(led, s(), place, route)), NoPlace)

    def test_any_thing_as_a_place(self):
        for thing in odd_things():
            if not is_place(s(), thing):
                self.assertIs(type(raised(led, s(), thing, ())), NoPlace)
                self.assertIs(type(raised(route_to, s(), thing)), NoPlace)


class Reached(unittest.TestCase):
    def test_samples(self):
        self.assertEqual(reached(s()), list(range(9)))
        self.assertEqual(reached(forms()), [0, 1, 2, 3, 4, 5])
        self.assertEqual(reached(Program((("end",), ("go", 0)))), [0])
        self.assertEqual(reached(Program((("go", 2), ("end",), ("test", "x", (2, 0, 1))))), [0, 1, 2])

    def test_many_programs(self):
        for program in PROGRAMS:
            self.assertEqual(reached(program), reached_places(program))
            self.assertIs(type(reached(program)), list)

    def test_a_changed_answer_spoils_nothing(self):
        program = s()
        reached(program).clear()
        self.assertEqual(reached(program), list(range(9)))

    def test_routes_to_places(self):
        self.assertEqual(route_to(s(), 0), ())
        self.assertEqual(route_to(s(), 8), (0, 0, 1, 0, 0))
        self.assertEqual(route_to(s(), 5), (0, 0, 0, 0, 0))
        self.assertIsNone(route_to(forms(), 6))
        self.assertIsNone(route_to(forms(), 7))
        self.assertEqual(route_to(forms(), 3), (0, 0, 0))

    def test_the_least_of_the_shortest(self):
        # To 4 there lead (0, 1), (1, 0), (2, 0) and, longer but less, (0, 0, 0).
        program = Program((("test", "x", (1, 2, 3)), ("test", "x", (5, 4)), ("go", 4), ("go", 4), ("end",), ("go", 4)))
        self.assertEqual(route_to(program, 4), (0, 1))
        # To 4 there lead (0, 1), (1, 0): the places' numbers say nothing.
        program = Program((("test", "x", (3, 1)), ("test", "x", (4, 4)), ("end",), ("test", "x", (2, 4)), ("end",)))
        self.assertEqual(route_to(program, 4), (0, 1))

    def test_routes_of_many_programs(self):
        for program in PROGRAMS:
            for place in range(len(program.steps)):
                self.assertEqual(route_to(program, place), least_route(program, place))

    def test_long_routes_to_places(self):
        program = Program(tuple([("go", place + 1) for place in range(39)]) + (("end",),))
        self.assertEqual(route_to(program, 39), (0,) * 39)

    def test_more_than_forty_places(self):
        program = grown_ring(self, 5000)
        self.assertEqual(reached(program), list(range(5002)))
        self.assertEqual(route_to(program, 5000), (0,) + (1,) * 4999)
        self.assertEqual(route_to(program, 5001), (0, 0))
        self.assertEqual(led(program, 0, (0,) + (1,) * 9999), 5000)
        self.assertEqual(goal(program, (5000, 1)), 1)
        self.assertEqual(faults(program), [])
        self.assertIsNone(fault_route(program, 4000, "x"))


class Faults(unittest.TestCase):
    def test_samples(self):
        self.assertEqual(faults(FAULTY), [(0, "x"), (2, "x")])
        self.assertEqual(faults(s()), [])
        self.assertEqual(faults(forms()), [])
        self.assertEqual(faults(LOOP), [(0, "y"), (0, "z"), (1, "y"), (3, "z")])

    def test_each_fault_stands_once(self):
        self.assertEqual(faults(Program((("make", "y", ("x", "x"), 0),))), [(0, "x")])
        self.assertEqual(faults(Program((("make", "x", ("x",), 0),))), [(0, "x")])

    def test_many_programs(self):
        for program in PROGRAMS:
            self.assertEqual(faults(program), all_faults(program))
            self.assertIs(type(faults(program)), list)

    def test_a_changed_answer_spoils_nothing(self):
        program = Program(FAULTY.steps)
        faults(program).append((3, "y"))
        self.assertEqual(faults(program), [(0, "x"), (2, "x")])

    def test_fault_routes(self):
        self.assertEqual(fault_route(FAULTY, 0, "x"), ())
        self.assertEqual(fault_route(FAULTY, 2, "x"), (1,))
        self.assertIsNone(fault_route(FAULTY, 1, "x"))
        self.assertIsNone(fault_route(FAULTY, 2, "y"))
        self.assertIsNone(fault_route(FAULTY, 2, "abcdefgh"))
        self.assertIsNone(fault_route(LOOP, 5, "x"))

    def test_fault_routes_of_many_programs(self):
        for program in PROGRAMS:
            found = all_faults(program)
            for place in range(len(program.steps)):
                for name in ("x", "y", "z", "w"):
                    route = fault_route(program, place, name)
                    self.assertEqual(route is not None, (place, name) in found)
                    if route is not None:
                        self.assertTrue(shows(program, 0, route, name))
                        self.assertEqual(places_of_route(program, 0, route)[-1], place)
                        self.assertIs(is_fault_route(program, place, name, route), True)

    def test_judging_fault_routes(self):
        rng = random.Random(6)
        for program in PROGRAMS[:200]:
            for route in routes(rng, program, 0, 12):
                for place in range(len(program.steps)):
                    for name in ("x", "y", "z"):
                        places = places_of_route(program, 0, route)
                        right = shows(program, 0, route, name) and places[-1] == place
                        self.assertIs(is_fault_route(program, place, name, route), right)

    def test_a_name_that_is_read_where_it_is_made(self):
        program = Program((("make", "x", ("x",), 1), ("make", "x", ("x",), 0)))
        self.assertIs(is_fault_route(program, 0, "x", ()), True)
        self.assertIs(is_fault_route(program, 0, "x", (0, 0)), False)
        self.assertIs(is_fault_route(program, 1, "x", (0,)), False)

    def test_a_route_to_another_place_or_from_another_place(self):
        self.assertIs(is_fault_route(FAULTY, 2, "x", ()), False)
        self.assertIs(is_fault_route(FAULTY, 2, "x", (0, 0)), False)
        self.assertIs(is_fault_route(FAULTY, 2, "x", (1,)), True)
        self.assertIs(is_fault_route(FAULTY, 3, "x", (1, 0)), False)
        self.assertIs(is_fault_route(FAULTY, 1, "x", (0,)), False)

    def test_long_routes(self):
        program = Program((("make", "y", (), 1), ("test", "x", (1, 2)), ("tell", "x", 2)))
        for many in (0, 1, 9000):
            route = (0,) + (0,) * many
            self.assertIs(is_fault_route(program, 1, "x", route), True)
            self.assertIs(is_fault_route(program, 2, "x", route + (1,)), True)
            self.assertIs(is_fault_route(program, 2, "x", route), False)
            self.assertIs(is_fault_route(program, 1, "x", route + (2,)), False)
        self.assertIs(is_fault_route(program, 1, "y", (0,) * 9000), False)

    def test_any_thing_is_judged(self):
        for thing in odd_things():
            for place, name in ((0, "y"), (0, "z"), (1, "y"), (3, "z"), (2, "x"), (5, "x")):
                places = places_of_route(LOOP, 0, thing)
                right = places is not None and places[-1] == place and shows(LOOP, 0, thing, name)
                self.assertIs(is_fault_route(LOOP, place, name, thing), right)
        check_unchanged(self, lambda thing: is_fault_route(LOOP, 0, "y", thing))

    def test_the_order_of_the_errors(self):
        for thing in odd_things():
            if not is_place(FAULTY, thing):
                for name in ("x", "X", 0):
                    self.assertIs(type(raised(fault_route, FAULTY, thing, name)), NoPlace)
                    self.assertIs(type(raised(is_fault_route, FAULTY, thing, name, ())), NoPlace)
            if not is_name(thing):
                for place in range(4):
                    error = raised(fault_route, FAULTY, place, thing)
                    self.assertIs(type(error), NoName)
                    self.assertIs(error.name, thing)
                    error = raised(is_fault_route, FAULTY, place, thing, thing)
                    self.assertIs(type(error), NoName)
                    self.assertIs(error.name, thing)

    def test_names_that_are_none(self):
        for name in ("", "X", "x1", "abcdefghi", "x ", None, 0, True, b"x", ("x",), ["x"]):
            error = raised(fault_route, FAULTY, 0, name)
            self.assertIs(type(error), NoName)
            self.assertIs(error.name, name)

    def test_reads_are_those_of_the_place(self):
        for program in PROGRAMS:
            for place, name in faults(program):
                self.assertIn(name, reads(program.steps[place]))
                self.assertIn((0, place), leads(program, name))
                self.assertIn(name, names(program))


if __name__ == "__main__":
    unittest.main()
