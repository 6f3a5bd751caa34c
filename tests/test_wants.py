import random
import unittest

from fullbelts.errors import NoName, NoPlace
from fullbelts.programs import Program
from fullbelts.wants import is_want_route, load, need, want_route, wanted
from samples import (
    all_loads, all_wants, check_unchanged, faultless_programs, forms, goals, grown_ring, is_name, odd_things,
    raised, reached_places, ring, s, shows)

PROGRAMS = faultless_programs(300)

# x is read where it is made anew, in a ring; nobody wants w; 6 and 7 are not reached.
ANEW = Program((("make", "x", (), 1), ("make", "x", ("x",), 2), ("test", "x", (1, 3, 3)), ("make", "w", ("x", "x"), 4),
                ("go", 5), ("end",), ("tell", "x", 7), ("make", "x", ("w",), 6)))


def routes(rng, program, place, many):
    for _ in range(many):
        route, at = [], place
        for _ in range(rng.randrange(7)):
            ahead = goals(program.steps[at])
            if ahead:
                route.append(rng.randrange(len(ahead)))
                at = ahead[route[-1]]
        yield tuple(route)
        yield (*route, rng.choice((0, 1, 3, -1, True, None)))


class Wanted(unittest.TestCase):
    def test_samples(self):
        self.assertEqual(wanted(s()), [
            (), ("x",), ("x", "y"), ("x", "y"), ("t", "y"), ("t", "x"), ("x", "y"), ("y",), ()])
        self.assertEqual(wanted(forms()), [
            (), ("a",), ("a", "bbbbbbbb"), ("a", "bbbbbbbb"), ("a", "bbbbbbbb"), (), (), ()])
        self.assertEqual(wanted(ANEW), [(), ("x",), ("x",), ("x",), (), (), (), ()])

    def test_a_step_reads_ahead_of_its_making(self):
        program = Program((("make", "x", (), 1), ("make", "x", ("x",), 2), ("end",)))
        self.assertEqual(wanted(program), [(), ("x",), ()])
        program = Program((("make", "x", (), 1), ("make", "x", (), 2), ("tell", "x", 3), ("end",)))
        self.assertEqual(wanted(program), [(), (), ("x",), ()])

    def test_round_a_ring(self):
        program = ring(30)
        self.assertEqual(wanted(program), [(), ("x",)] + [("x",)] * 30 + [()])

    def test_ascending(self):
        program = Program((("make", "z", (), 1), ("make", "ab", (), 2), ("make", "b", (), 3), ("tell", "z", 4),
                           ("tell", "b", 5), ("tell", "ab", 6), ("end",)))
        self.assertEqual(wanted(program)[3], ("ab", "b", "z"))

    def test_many_programs(self):
        for program in PROGRAMS:
            found = wanted(program)
            self.assertEqual(found, all_wants(program))
            self.assertIs(type(found), list)
            self.assertEqual({type(names) for names in found}, {tuple})

    def test_a_changed_answer_spoils_nothing(self):
        program = s()
        wanted(program).clear()
        self.assertEqual(wanted(program), all_wants(program))
        self.assertEqual(need(program), 2)

    def test_more_than_forty_places(self):
        program = grown_ring(self, 5000)
        self.assertEqual(wanted(program), [()] + [("x",)] * 5000 + [()])
        self.assertEqual(need(program), 1)
        self.assertEqual(load(program, 5000), 1)
        self.assertEqual(load(program, 5001), 0)
        self.assertIs(is_want_route(program, 1, "x", (1,) * 9000), True)
        self.assertEqual(want_route(program, 5001, "x"), None)


class WantRoutes(unittest.TestCase):
    def test_samples(self):
        self.assertEqual(want_route(s(), 2, "x"), ())
        self.assertEqual(want_route(s(), 7, "y"), ())
        self.assertIsNone(want_route(s(), 0, "x"))
        self.assertIsNone(want_route(s(), 8, "x"))
        self.assertIsNone(want_route(s(), 2, "t"))
        self.assertIsNone(want_route(s(), 2, "never"))

    def test_no_route_from_places_that_are_not_reached(self):
        self.assertIsNone(want_route(ANEW, 6, "x"))
        self.assertIs(is_want_route(ANEW, 6, "x", ()), False)
        self.assertIs(is_want_route(ANEW, 7, "w", ()), False)
        self.assertIs(is_want_route(ANEW, 7, "x", (0,)), False)

    def test_many_programs(self):
        for program in PROGRAMS:
            wants = all_wants(program)
            for place in range(len(program.steps)):
                for name in ("x", "y", "z", "a", "q"):
                    route = want_route(program, place, name)
                    self.assertEqual(route is not None, name in wants[place])
                    if route is not None:
                        self.assertTrue(shows(program, place, route, name))
                        self.assertIs(is_want_route(program, place, name, route), True)

    def test_judging(self):
        rng = random.Random(7)
        for program in PROGRAMS[:150]:
            there = reached_places(program)
            for place in range(len(program.steps)):
                for route in routes(rng, program, place, 5):
                    for name in ("x", "y", "z"):
                        right = place in there and shows(program, place, route, name)
                        self.assertIs(is_want_route(program, place, name, route), right)

    def test_a_route_that_leaves_a_make(self):
        self.assertIs(is_want_route(ANEW, 1, "x", ()), True)
        self.assertIs(is_want_route(ANEW, 1, "x", (0,)), False)
        self.assertIs(is_want_route(ANEW, 2, "x", (0,)), True)
        self.assertIs(is_want_route(ANEW, 2, "x", (0, 0)), False)
        self.assertIs(is_want_route(ANEW, 2, "x", (1,)), True)
        self.assertIs(is_want_route(ANEW, 2, "x", (2,)), True)
        self.assertIs(is_want_route(ANEW, 2, "x", (1, 0)), False)

    def test_long_routes(self):
        program = ring(30)
        for many in (29, 30 * 100 + 29, 30 * 300 + 29):
            self.assertIs(is_want_route(program, 2, "x", (0,) * many), True)
            self.assertIs(is_want_route(program, 2, "x", (0,) * (many + 1)), False)
            self.assertIs(is_want_route(program, 1, "x", (0,) * (many + 1)), True)
            self.assertIs(is_want_route(program, 0, "x", (0,) * (many + 2)), False)
            self.assertIs(is_want_route(program, 2, "y", (0,) * many), False)

    def test_any_thing_is_judged(self):
        for thing in odd_things():
            for place in range(8):
                for name in ("x", "w"):
                    right = place < 6 and shows(ANEW, place, thing, name)
                    self.assertIs(is_want_route(ANEW, place, name, thing), right)
        check_unchanged(self, lambda thing: is_want_route(ANEW, 2, "x", thing))

    def test_errors(self):
        for thing in odd_things():
            if type(thing) is not int or not 0 <= thing < 8:
                for name in ("x", "X", None, thing):
                    self.assertIs(type(raised(want_route, ANEW, thing, name)), NoPlace)
                    self.assertIs(type(raised(is_want_route, ANEW, thing, name, ())), NoPlace)
            if not is_name(thing):
                for place in (0, 2, 7):
                    for error in (raised(want_route, ANEW, place, thing),
                                  raised(is_want_route, ANEW, place, thing, ())):
                        self.assertIs(type(error), NoName)
                        self.assertIs(error.name, thing)

    def test_places_and_names_at_the_edges(self):
        for place in (-1, 8, True, False, 10 ** 59, "2", None, (2,)):
            self.assertIs(type(raised(want_route, ANEW, place, "x")), NoPlace)
        for name in ("", "abcdefghi", "X", "x1", None, True, b"x", ["x"]):
            self.assertIs(type(raised(want_route, ANEW, 2, name)), NoName)
        self.assertIsNone(want_route(ANEW, 2, "abcdefgh"))


class Loads(unittest.TestCase):
    def test_samples(self):
        self.assertEqual([load(s(), place) for place in range(9)], [1, 2, 2, 2, 2, 2, 2, 1, 0])
        self.assertEqual(need(s()), 2)
        self.assertEqual([load(ANEW, place) for place in range(6)], [1, 1, 1, 1, 0, 0])

    def test_a_result_that_nobody_wants(self):
        self.assertEqual(need(Program((("make", "x", (), 1), ("end",)))), 1)
        program = Program((("make", "x", (), 1), ("make", "y", (), 2), ("make", "w", (), 3), ("tell", "x", 4),
                           ("tell", "y", 5), ("end",)))
        self.assertEqual([load(program, place) for place in range(6)], [1, 2, 3, 2, 1, 0])
        self.assertEqual(need(program), 3)

    def test_a_make_that_reads_more_than_is_wanted_behind(self):
        program = Program((("make", "x", (), 1), ("make", "y", (), 2), ("make", "x", ("x", "y"), 3), ("end",)))
        self.assertEqual([load(program, place) for place in range(4)], [1, 2, 2, 0])

    def test_no_need(self):
        self.assertEqual(need(Program((("end",),))), 0)
        self.assertEqual(need(Program((("go", 0), ("tell", "x", 1)))), 0)

    def test_twelve_names(self):
        words = "abcdefghijkl"
        made = tuple([("make", word, (), at + 1) for at, word in enumerate(words)])
        told = tuple([("tell", word, at + 13) for at, word in enumerate(words)])
        self.assertEqual(need(Program(made + told + (("end",),))), 12)

    def test_places_that_are_not_reached_count_for_nothing(self):
        program = Program((("make", "x", (), 1), ("end",), ("make", "y", ("x",), 3), ("make", "z", ("y", "x"), 4),
                           ("tell", "x", 5), ("tell", "y", 6), ("tell", "z", 1)))
        self.assertEqual(need(program), 1)
        self.assertEqual(wanted(program), [()] * 7)

    def test_many_programs(self):
        for program in PROGRAMS:
            loads = all_loads(program)
            self.assertEqual(need(program), max(loads.values()))
            self.assertIs(type(need(program)), int)
            for place in range(len(program.steps)):
                if place in loads:
                    self.assertEqual(load(program, place), loads[place])
                    self.assertIs(type(load(program, place)), int)
                else:
                    self.assertIs(type(raised(load, program, place)), NoPlace)

    def test_what_is_no_reached_place(self):
        for place in (6, 7, 8, -1, -8, True, False, 10 ** 59, "2", None, (2,), [2], {}):
            self.assertIs(type(raised(load, ANEW, place)), NoPlace)
        for thing in odd_things():
            if type(thing) is not int or not 0 <= thing < 6:
                self.assertIs(type(raised(load, ANEW, thing)), NoPlace)
        check_unchanged(self, lambda thing: raised(load, ANEW, thing))


if __name__ == "__main__":
    unittest.main()
