import random
import unittest

from fullbelts.codes import Code
from fullbelts.errors import NoNumber, NoWay, Over
from fullbelts.machines import Machine
from fullbelts.programs import Program
from fullbelts.refuting import is_refutation, refutation
from fullbelts.runs import Run
from fullbelts.steppers import Stepper
from fullbelts.tables import table
from reckoning import carry, holding_of, many_codes, nothing, put_in, rows_of
from samples import c, check_unchanged, goals, grown_ring, odd_things, places_of_route, raised, reads, s

CODES = many_codes(120)

# On one belt of two rooms: x is made anew of itself, and the elder result stands behind it.
ANEW = Code(
    Program((("make", "x", (), 1), ("make", "x", ("x", "x"), 2), ("test", "x", (1, 3)), ("tell", "x", 4), ("end",))),
    Machine((2,)), {1: ((0, 0), (0, 1)), 2: ((0, 0),), 3: ((0, 1),)}, {0: 0, 1: 0}, {(2, 1): (((0, 1), 0),)})


def stepped(code, route):
    """What a stepper tells behind the route, and the list of what each go returned."""
    places = places_of_route(code.program, 0, tuple(route))
    rows, has, made = rows_of(nothing(code.machine)), {}, 0
    wrong, told = [], []
    for step_number, (place, number) in enumerate(zip(places, route)):
        step = code.program.steps[place]
        pairs = [(has[name], rows[belt][at]) for name, (belt, at) in zip(reads(step), code.rooms.get(place, ()))]
        told.append(pairs)
        wrong += [(step_number, index) for index, (due, found) in enumerate(pairs) if due != found]
        if step[0] == "make":
            has[step[1]] = made
            put_in(rows, code.belts[place], made)
            made += 1
        carry(rows, code.carries.get((place, number), ()))
    return (places[-1], tuple(route), holding_of(rows), wrong), told


def state(stepper):
    return stepper.place, stepper.route(), stepper.holding(), stepper.wrong()


def gone(code, route):
    stepper = Stepper(code)
    for number in route:
        stepper.go(number)
    return stepper


def random_route(rng, program, most):
    place, route = 0, []
    for _ in range(most):
        ahead = goals(program.steps[place])
        if ahead:
            route.append(rng.randrange(len(ahead)))
            place = ahead[route[-1]]
    return route


class Stop(BaseException):
    pass


class Steps(unittest.TestCase):
    def check(self, stepper, code, route):
        self.assertEqual(state(stepper), stepped(code, route)[0])
        self.assertEqual([type(part) for part in state(stepper)], [int, tuple, tuple, list])
        self.assertEqual({type(row) for row in stepper.holding()}, {tuple})

    def test_the_beginning(self):
        for code in CODES:
            self.check(Stepper(code), code, ())
            self.assertEqual(state(Stepper(code)), (0, (), nothing(code.machine), []))

    def test_a_right_code(self):
        stepper = Stepper(c())
        self.assertEqual([stepper.go(0) for _ in range(6)], [[], [], [(0, 0)], [(0, 0)], [(1, 1)], [(2, 2)]])
        self.assertEqual(stepper.holding(), ((4, 3),))
        self.assertEqual([stepper.go(1), stepper.go(0), stepper.go(0)], [[(3, 3)], [(3, 3)], [(4, 4)]])
        self.assertEqual(state(stepper), (8, (0, 0, 0, 0, 0, 0, 1, 0, 0), ((4, 3),), []))

    def test_an_elder_result_of_the_same_name(self):
        stepper = Stepper(ANEW)
        self.assertEqual(stepper.go(0), [])
        self.assertEqual(stepper.go(0), [(0, 0), (0, None)])
        self.assertEqual(stepper.wrong(), [(1, 1)])
        self.assertEqual([stepper.go(0), stepper.go(0)], [[(1, 1)], [(1, 1), (1, 0)]])
        self.assertEqual(stepper.wrong(), [(1, 1), (3, 1)])
        self.assertEqual(stepper.holding(), ((2, 1),))
        self.assertEqual([stepper.go(1), stepper.go(0)], [[(2, 2)], [(2, 2)]])
        self.assertEqual(state(stepper), (4, (0, 0, 0, 0, 1, 0), ((1, 2),), [(1, 1), (3, 1)]))

    def test_a_room_in_which_nothing_is(self):
        program = Program((("make", "x", (), 1), ("tell", "x", 1)))
        stepper = Stepper(Code(program, Machine((1, 2)), {1: ((1, 1),)}, {0: 0}, {}))
        self.assertEqual([stepper.go(0) for _ in range(3)], [[], [(0, None)], [(0, None)]])
        self.assertEqual(stepper.wrong(), [(1, 0), (2, 0)])
        self.assertEqual(stepper.holding(), ((0,), (None, None)))

    def test_a_reading_at_an_end_of_the_route_counts_only_when_it_is_done(self):
        stepper = gone(ANEW, (0,))
        self.assertEqual(stepper.wrong(), [])
        stepper.go(0)
        self.assertEqual(stepper.wrong(), [(1, 1)])

    def test_carries_of_the_way_that_is_gone(self):
        program = Program((("make", "x", (), 1), ("test", "x", (1, 1, 2)), ("end",)))
        code = Code(program, Machine((1, 2)), {1: ((0, 0),)}, {0: 0}, {
            (1, 1): (((0, 0), 1),), (1, 2): (((1, 0), 0), ((0, 0), 1))})
        self.assertEqual(gone(code, (0, 0)).holding(), ((0,), (None, None)))
        self.assertEqual(gone(code, (0, 1)).holding(), ((0,), (0, None)))
        self.assertEqual(gone(code, (0, 1, 1, 0)).holding(), ((0,), (0, 0)))
        self.assertEqual(gone(code, (0, 2)).holding(), ((None,), (None, None)))

    def test_walks_forth_and_back(self):
        rng = random.Random(11)
        for code in CODES:
            stepper, route = Stepper(code), []
            for _ in range(30):
                ahead = goals(code.program.steps[stepper.place])
                if ahead and rng.randrange(3):
                    route.append(rng.randrange(len(ahead)))
                    told = stepper.go(route[-1])
                    self.assertEqual(told, stepped(code, route)[1][-1])
                    self.assertIs(type(told), list)
                    self.assertTrue(all(type(pair) is tuple for pair in told))
                elif route:
                    many = rng.randint(1, len(route))
                    del route[len(route) - many:]
                    self.assertIsNone(stepper.back(many))
                self.check(stepper, code, route)

    def test_it_agrees_with_runs_tables_and_refutations(self):
        rng = random.Random(12)
        wrong = 0
        for code in CODES:
            right = table(code)
            for _ in range(6):
                route = random_route(rng, code.program, 12)
                stepper, run = Stepper(code), Run(code.program)
                for number in route:
                    self.assertEqual(tuple([due for due, _ in stepper.go(number)]), run.go(number))
                self.assertEqual((stepper.place, stepper.route()), (run.place, run.route()))
                for step, index in stepper.wrong():
                    self.assertIs(is_refutation(code, (tuple(route[:step]), index)), True)
                    wrong += 1
                if right is not None:
                    self.assertEqual(stepper.wrong(), [])
                    for names, held in zip(right[stepper.place], stepper.holding()):
                        for name, item in zip(names, held):
                            self.assertTrue(name is None or run.has()[name] == item)
            if right is None:
                route, index = refutation(code)
                stepper = gone(code, route)
                stepper.go(0) if goals(code.program.steps[stepper.place]) else None
                self.assertIn((len(route), index), stepper.wrong())
        self.assertGreater(wrong, 100)

    def test_long_routes_and_back_by_all_steps(self):
        route = (0,) * 6001
        stepper = gone(ANEW, route)
        self.check(stepper, ANEW, route)
        self.assertIsNone(stepper.back(6001))
        self.check(stepper, ANEW, ())
        self.assertIs(type(raised(stepper.back, 1)), NoNumber)
        stepper = gone(ANEW, route[:3000])
        for many in range(2999, -1, -1):
            stepper.back(1)
            if many % 500 < 2:
                self.check(stepper, ANEW, route[:many])

    def test_a_thousand_carries_on_each_way(self):
        code = c()
        turn = (((0, 1), 0),) * 1000
        full = Code(code.program, code.machine, code.rooms, code.belts, {
            **{(place, 0): turn for place in range(8)}, (2, 1): turn})
        self.assertEqual(state(gone(full, (0,) * 4002)), state(gone(code, (0,) * 4002)))
        odd = Code(code.program, code.machine, code.rooms, code.belts, {(2, 1): turn[1:]})
        self.assertEqual(gone(odd, (0, 0, 1, 0, 0)).wrong(), [(3, 0), (4, 0)])

    def test_more_than_forty_places(self):
        program = grown_ring(self, 900)
        rooms = {place: ((0, 0),) for place in range(1, 901)}
        code = Code(program, Machine((1, 1)), rooms, {0: 0}, {(900, 1): (((1, 0), 0),)})
        stepper = gone(code, (0,) + (1,) * 2000)
        self.assertEqual(stepper.wrong(), [(step, 0) for step in range(901, 2001)])
        stepper.back(1100)
        self.assertEqual(stepper.wrong(), [])
        self.assertEqual(stepper.holding(), ((None,), (None,)))
        stepper.back(1)
        self.assertEqual(stepper.holding(), ((0,), (None,)))

    def test_changed_answers_spoil_nothing(self):
        stepper = gone(ANEW, (0, 0, 0))
        kept = state(stepper)
        stepper.wrong().clear()
        stepper.wrong().append("spoilt")
        self.assertEqual(state(stepper), kept)
        self.assertIsNot(stepper.wrong(), stepper.wrong())
        told = stepper.go(0)
        told.clear()
        stepper.back(1)
        self.assertEqual(stepper.go(0), [(1, 1), (1, 0)])

    def test_answers_stay_as_they_were(self):
        stepper = gone(ANEW, (0, 0))
        wrong, holding, route = stepper.wrong(), stepper.holding(), stepper.route()
        stepper.go(0)
        stepper.go(0)
        stepper.back(4)
        self.assertEqual((wrong, holding, route), ([(1, 1)], ((1, 0),), (0, 0)))

    def test_codes_stay_as_they_are(self):
        for code in CODES[:40]:
            parts = (code.rooms, code.belts, code.carries)
            gone(code, random_route(random.Random(3), code.program, 9)).holding()
            self.assertEqual((code.rooms, code.belts, code.carries), parts)

    def test_equal_to_no_thing_of_another_class(self):
        stepper = Stepper(c())
        for thing in [c(), Run(s()), *odd_things()]:
            if type(thing) is not Stepper:
                self.assertFalse(stepper == thing)
                self.assertTrue(stepper != thing)


class Errors(unittest.TestCase):
    def test_over(self):
        stepper = gone(c(), (0, 0, 1, 0, 0))
        kept = state(stepper)
        for thing in [0, 1, -1, True, None, "0", *odd_things()]:
            self.assertIs(type(raised(stepper.go, thing)), Over)
        self.assertEqual(state(stepper), kept)
        stepper.back(1)
        self.assertEqual(stepper.go(0), [(1, 1)])
        code = Code(Program((("end",),)), Machine((1,)), {}, {}, {})
        self.assertIs(type(raised(Stepper(code).go, 0)), Over)

    def test_no_way(self):
        stepper = gone(ANEW, (0, 0))
        kept = state(stepper)
        for thing in [2, 3, -1, -2, True, False, 10 ** 59, "0", None, (0,), [0], b"0", *odd_things()]:
            if type(thing) is not int or thing not in (0, 1):
                self.assertIs(type(raised(stepper.go, thing)), NoWay)
        self.assertEqual(state(stepper), kept)
        self.assertEqual(stepper.go(0), [(1, 1)])

    def test_no_number(self):
        for route in ((), (0,), (0, 0, 1, 0)):
            stepper = gone(ANEW, route)
            kept = state(stepper)
            for thing in [0, -1, len(route) + 1, 10 ** 59, -10 ** 59, True, False, None, "1", (1,), *odd_things()]:
                if type(thing) is not int or not 1 <= thing <= len(route):
                    self.assertIs(type(raised(stepper.back, thing)), NoNumber)
            self.assertEqual(state(stepper), kept)

    def test_nothing_passed_is_changed(self):
        stepper = gone(ANEW, (0, 0))
        check_unchanged(self, lambda thing: raised(stepper.copy().go, thing))
        check_unchanged(self, lambda thing: raised(stepper.copy().back, thing))


class Copies(unittest.TestCase):
    def test_a_copy_goes_on_apart(self):
        rng = random.Random(13)
        for code in CODES:
            route = random_route(rng, code.program, 8)
            stepper = gone(code, route)
            other = stepper.copy()
            self.assertIs(type(other), Stepper)
            kept = state(stepper)
            self.assertEqual(state(other), kept)
            for many in range(len(route)):
                other.back(1)
                self.assertEqual(state(other), stepped(code, route[:len(route) - many - 1])[0])
                self.assertEqual(state(stepper), kept)
            self.assertIs(type(raised(other.back, 1)), NoNumber)
            other = stepper.copy()
            if route:
                stepper.back(len(route))
            self.assertEqual(state(other), kept)
            self.assertEqual(state(stepper), state(Stepper(code)))

    def test_both_go_on(self):
        stepper = gone(ANEW, (0, 0))
        other = stepper.copy()
        stepper.go(0)
        stepper.go(0)
        other.go(1)
        other.go(0)
        self.assertEqual(state(stepper), stepped(ANEW, (0, 0, 0, 0))[0])
        self.assertEqual(state(other), stepped(ANEW, (0, 0, 1, 0))[0])
        other.back(4)
        self.assertEqual(stepper.wrong(), [(1, 1), (3, 1)])

    def test_a_copy_of_a_copy(self):
        stepper = gone(ANEW, (0,) * 9)
        third = stepper.copy().copy()
        third.back(9)
        self.assertEqual(state(third), state(Stepper(ANEW)))
        self.assertEqual(state(stepper), stepped(ANEW, (0,) * 9)[0])


class Trying(unittest.TestCase):
    def setUp(self):
        self.route = (0, 0, 0, 0)
        self.stepper = gone(ANEW, self.route)

    def check_as_it_was(self, stepper=None):
        stepper = stepper or self.stepper
        self.assertEqual(state(stepper), stepped(ANEW, self.route)[0])
        for many in range(1, 5):
            other = stepper.copy()
            other.back(many)
            self.assertEqual(state(other), stepped(ANEW, self.route[:4 - many])[0])
        other = stepper.copy()
        self.assertEqual([other.go(0), other.go(0), other.go(1), other.go(0)],
                         stepped(ANEW, self.route + (0, 0, 1, 0))[1][4:])

    def test_the_action_gets_the_stepper_and_its_answer_comes_back(self):
        answer, got = object(), []

        def action(stepper):
            got.append(stepper)
            return answer

        self.assertIs(self.stepper.trying(action), answer)
        self.assertEqual(len(got), 1)
        self.assertIs(got[0], self.stepper)
        self.assertIsNone(self.stepper.trying(lambda stepper: None))
        self.check_as_it_was()

    def test_an_action_that_goes_on_and_back(self):
        def action(stepper):
            stepper.go(0)
            stepper.go(0)
            stepper.back(1)
            return state(stepper)
        self.assertEqual(self.stepper.trying(action), stepped(ANEW, (0,) * 5)[0])
        self.check_as_it_was()

    def test_an_action_that_takes_back_more_than_it_did(self):
        def action(stepper):
            stepper.go(0)
            stepper.back(4)
            kept = state(stepper)
            for number in (0, 1, 0):
                stepper.go(number)
            return kept
        self.assertEqual(self.stepper.trying(action), stepped(ANEW, (0,))[0])
        self.check_as_it_was()
        self.stepper.trying(lambda stepper: stepper.back(4))
        self.check_as_it_was()

    def test_an_action_that_raises(self):
        for error in (ValueError("x"), Over(), KeyError("x"), Stop(), KeyboardInterrupt(), StopIteration()):
            def action(stepper):
                stepper.go(0)
                stepper.back(3)
                stepper.go(1) if stepper.place == 2 else stepper.go(0)
                raise error
            with self.assertRaises(type(error)) as caught:
                self.stepper.trying(action)
            self.assertIs(caught.exception, error)
            self.check_as_it_was()

    def test_errors_of_the_stepper_go_on(self):
        self.assertIs(type(raised(self.stepper.trying, lambda one: [one.go(0), one.go(5)])), NoWay)
        self.check_as_it_was()
        self.assertIs(type(raised(self.stepper.trying, lambda one: one.back(5))), NoNumber)
        self.check_as_it_was()
        route = (1, 0, 0)
        self.assertIs(type(raised(self.stepper.trying, lambda one: [one.go(number) for number in route])), Over)
        self.check_as_it_was()

    def test_a_trial_within_a_trial(self):
        def inner(stepper):
            stepper.back(5)
            stepper.go(0)
            return state(stepper)

        def outer(stepper):
            stepper.go(0)
            kept = state(stepper)
            found = stepper.trying(inner)
            self.assertEqual(state(stepper), kept)
            self.assertIs(type(raised(stepper.trying, lambda one: [one.back(5), one.back(1)])), NoNumber)
            stepper.go(0)
            return found, state(stepper)

        found = self.stepper.trying(outer)
        self.assertEqual(found, (stepped(ANEW, (0,))[0], stepped(ANEW, (0,) * 6)[0]))
        self.check_as_it_was()

    def test_copies_and_trials(self):
        ahead = self.stepper.copy()

        def action(stepper):
            stepper.back(1)
            stepper.go(0)
            stepper.go(0)
            return stepper.copy()

        other = self.stepper.trying(action)
        self.assertEqual(state(other), stepped(ANEW, (0,) * 5)[0])
        self.check_as_it_was()
        self.check_as_it_was(ahead)
        other.back(5)
        self.check_as_it_was()
        ahead.trying(lambda stepper: stepper.back(4))
        self.check_as_it_was()
        self.check_as_it_was(ahead)

    def test_trials_at_the_beginning_and_at_an_end(self):
        stepper = Stepper(ANEW)
        stepper.trying(lambda one: [one.go(0), one.go(0)])
        self.assertEqual(state(stepper), state(Stepper(ANEW)))
        self.assertIs(type(raised(stepper.back, 1)), NoNumber)
        stepper = gone(ANEW, (0, 0, 1, 0))
        stepper.trying(lambda one: one.back(4))
        self.assertEqual(state(stepper), stepped(ANEW, (0, 0, 1, 0))[0])
        self.assertIs(type(raised(stepper.go, 0)), Over)


if __name__ == "__main__":
    unittest.main()
