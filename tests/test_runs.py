import random
import unittest

from fullbelts.errors import NoNumber, NoWay, Over
from fullbelts.programs import Program
from fullbelts.runs import Run
from samples import (
    check_unchanged, faultless_programs, forms, goals, grown_ring, odd_things, places_of_route, raised, reads, ring, s)

PROGRAMS = faultless_programs(150)

# A step that reads a name twice, and one that reads the name that it makes.
TWICE = Program((("make", "x", (), 1), ("make", "y", ("x", "x"), 2), ("make", "x", ("y", "x"), 3),
                 ("tell", "x", 4), ("test", "y", (2, 5)), ("end",)))


def told_of(program, route):
    """Place, has and told behind the route, and what each step read."""
    places = places_of_route(program, 0, tuple(route))
    has, told, read, made = {}, [], [], 0
    for place in places[:-1]:
        step = program.steps[place]
        read.append(tuple([has[name] for name in reads(step)]))
        if step[0] == "tell":
            told += read[-1]
        if step[0] == "make":
            has[step[1]] = made
            made += 1
    return places[-1], has, told, read


def state(run):
    return run.place, run.has(), run.route(), run.told()


def gone(program, route):
    run = Run(program)
    for number in route:
        run.go(number)
    return run


class Stop(BaseException):
    pass


class Runs(unittest.TestCase):
    def check(self, run, program, route):
        place, has, told, _ = told_of(program, route)
        self.assertEqual(state(run), (place, has, tuple(route), told))
        self.assertEqual([type(part) for part in state(run)], [int, dict, tuple, list])

    def test_the_beginning(self):
        for program in PROGRAMS:
            self.check(Run(program), program, ())

    def test_a_run_of_s(self):
        run = Run(s())
        self.assertEqual([run.go(0) for _ in range(6)], [(), (), (0,), (0,), (1,), (2,)])
        self.assertEqual(run.place, 2)
        self.assertEqual(run.has(), {"x": 3, "y": 4, "t": 2})
        self.assertEqual([run.go(1), run.go(0), run.go(0)], [(3,), (3,), (4,)])
        self.assertEqual(run.told(), [3, 4])
        self.assertEqual(run.place, 8)
        self.assertEqual(run.route(), (0, 0, 0, 0, 0, 0, 1, 0, 0))

    def test_reading_twice_and_reading_what_is_made(self):
        run = Run(TWICE)
        self.assertEqual([run.go(0) for _ in range(5)], [(), (0, 0), (1, 0), (2,), (1,)])
        self.assertEqual([run.go(0) for _ in range(2)], [(1, 2), (3,)])
        self.assertEqual(run.told(), [2, 3])
        self.assertEqual(run.has(), {"x": 3, "y": 1})

    def test_walks_forth_and_back(self):
        rng = random.Random(1)
        for program in PROGRAMS:
            run, route = Run(program), []
            for _ in range(40):
                ahead = goals(program.steps[run.place])
                if ahead and rng.randrange(3):
                    route.append(rng.randrange(len(ahead)))
                    read = run.go(route[-1])
                    self.assertEqual(read, told_of(program, route)[3][-1])
                    self.assertIs(type(read), tuple)
                elif route:
                    many = rng.randint(1, len(route))
                    del route[len(route) - many:]
                    self.assertIsNone(run.back(many))
                self.check(run, program, route)

    def test_long_routes_and_back_by_all_steps(self):
        run = Run(TWICE)
        route = (0,) * 6001
        for number in route:
            run.go(number)
        self.check(run, TWICE, route)
        self.assertIsNone(run.back(6001))
        self.check(run, TWICE, ())
        self.assertEqual(raised(run.back, 1).__class__, NoNumber)
        self.assertEqual(run.go(0), ())
        self.check(run, TWICE, (0,))

    def test_back_step_by_step(self):
        route = (0,) * 3000
        run = gone(TWICE, route)
        for many in range(2999, -1, -1):
            run.back(1)
            if many % 500 < 3:
                self.check(run, TWICE, route[:many])

    def test_alike_goals(self):
        run = gone(forms(), (0, 0))
        run.go(1)
        self.check(run, forms(), (0, 0, 1))

    def test_two_runs_are_apart(self):
        program = s()
        one, other = Run(program), Run(program)
        one.go(0)
        self.check(other, program, ())
        self.check(one, program, (0,))

    def test_more_than_forty_places(self):
        program = grown_ring(self, 200)
        route = (0,) + (1,) * 4000
        run = gone(program, route)
        self.check(run, program, route)
        run.back(4000)
        self.check(run, program, (0,))

    def test_changed_answers_spoil_nothing(self):
        run = gone(s(), (0, 0, 1, 0))
        kept = state(run)
        run.has().clear()
        run.has()["x"] = 9
        run.told().clear()
        run.told().append(9)
        self.assertEqual(state(run), kept)
        self.assertIsNot(run.has(), run.has())
        self.assertIsNot(run.told(), run.told())

    def test_answers_stay_as_they_were(self):
        run = gone(s(), (0, 0, 1))
        has, told, route = run.has(), run.told(), run.route()
        run.go(0)
        run.back(4)
        self.assertEqual((has, told, route), ({"x": 0, "y": 1}, [], (0, 0, 1)))

    def test_equal_to_no_thing_of_another_class(self):
        run = Run(s())
        for thing in [s(), *odd_things()]:
            if type(thing) is not Run:
                self.assertFalse(run == thing)
                self.assertTrue(run != thing)


class Errors(unittest.TestCase):
    def test_over(self):
        run = gone(s(), (0, 0, 1, 0, 0))
        kept = state(run)
        for thing in [0, 1, -1, True, None, "0", *odd_things()]:
            self.assertIs(type(raised(run.go, thing)), Over)
        self.assertEqual(state(run), kept)
        run.back(1)
        self.assertEqual(run.go(0), (1,))

    def test_over_at_the_very_first_place(self):
        self.assertIs(type(raised(Run(Program((("end",),))).go, 0)), Over)

    def test_no_way(self):
        run = gone(s(), (0, 0))
        kept = state(run)
        for thing in [2, 3, -1, -2, True, False, 10 ** 59, "0", None, (0,), [0], b"0", *odd_things()]:
            if type(thing) is not int or thing not in (0, 1):
                self.assertIs(type(raised(run.go, thing)), NoWay)
        self.assertEqual(state(run), kept)
        run = Run(s())
        for thing in (1, 2, -1, True, False):
            self.assertIs(type(raised(run.go, thing)), NoWay)
        self.assertEqual(state(run), (0, {}, (), []))

    def test_no_number(self):
        for route in ((), (0,), (0, 0, 1, 0, 0)):
            run = gone(s(), route)
            kept = state(run)
            for thing in [0, -1, len(route) + 1, 10 ** 59, -10 ** 59, True, False, None, "1", (1,), *odd_things()]:
                if type(thing) is not int or not 1 <= thing <= len(route):
                    self.assertIs(type(raised(run.back, thing)), NoNumber)
            self.assertEqual(state(run), kept)

    def test_nothing_passed_is_changed(self):
        run = gone(s(), (0, 0))
        check_unchanged(self, lambda thing: raised(run.copy().go, thing))
        check_unchanged(self, lambda thing: raised(run.copy().back, thing))


class Copies(unittest.TestCase):
    def test_a_copy_goes_on_apart(self):
        rng = random.Random(2)
        for program in PROGRAMS:
            run, route = Run(program), []
            for _ in range(8):
                ahead = goals(program.steps[run.place])
                if ahead:
                    route.append(rng.randrange(len(ahead)))
                    run.go(route[-1])
            other = run.copy()
            self.assertIs(type(other), Run)
            self.assertEqual(state(other), state(run))
            kept = state(run)
            for many in range(len(route)):
                other.back(1)
                self.assertEqual(state(other), state(gone(program, route[:len(route) - many - 1])))
                self.assertEqual(state(run), kept)
            self.assertIs(type(raised(other.back, 1)), NoNumber)
            other = run.copy()
            if route:
                run.back(len(route))
            self.assertEqual(state(other), kept)
            self.assertEqual(state(run), (0, {}, (), []))

    def test_both_go_on(self):
        run = gone(s(), (0, 0))
        other = run.copy()
        self.assertEqual([run.go(0), run.go(0), run.go(0)], [(0,), (0,), (1,)])
        self.assertEqual([other.go(1), other.go(0)], [(0,), (0,)])
        self.assertEqual(state(run), state(gone(s(), (0, 0, 0, 0, 0))))
        self.assertEqual(state(other), state(gone(s(), (0, 0, 1, 0))))
        run.back(5)
        self.assertEqual(other.told(), [0])
        self.assertEqual(state(other), state(gone(s(), (0, 0, 1, 0))))

    def test_a_copy_of_a_copy(self):
        run = gone(TWICE, (0,) * 9)
        third = run.copy().copy()
        third.back(9)
        self.assertEqual(state(third), state(Run(TWICE)))
        self.assertEqual(state(run), state(gone(TWICE, (0,) * 9)))


class Trying(unittest.TestCase):
    def setUp(self):
        self.run_of_s = gone(s(), (0, 0, 0, 0))
        self.kept = state(self.run_of_s)

    def check_as_it_was(self, run=None, route=(0, 0, 0, 0)):
        run = run or self.run_of_s
        self.assertEqual(state(run), state(gone(s(), route)))
        for many in range(1, len(route) + 1):
            other = run.copy()
            other.back(many)
            self.assertEqual(state(other), state(gone(s(), route[:len(route) - many])))
        other = run.copy()
        self.assertEqual([other.go(0), other.go(0), other.go(1), other.go(0)], [(1,), (2,), (3,), (3,)])

    def test_the_action_gets_the_run_and_its_answer_comes_back(self):
        answer, got = object(), []

        def action(run):
            got.append(run)
            return answer

        self.assertIs(self.run_of_s.trying(action), answer)
        self.assertEqual(len(got), 1)
        self.assertIs(got[0], self.run_of_s)
        self.assertIsNone(self.run_of_s.trying(lambda run: None))
        self.check_as_it_was()

    def test_an_action_that_goes_on(self):
        self.assertEqual(self.run_of_s.trying(lambda run: [run.go(0), run.go(0), run.go(1), run.go(0), run.go(0)]),
                         [(1,), (2,), (3,), (3,), (4,)])
        self.check_as_it_was()

    def test_an_action_sees_its_own_steps(self):
        def action(run):
            run.go(0)
            run.go(0)
            run.back(1)
            return state(run)
        self.assertEqual(self.run_of_s.trying(action), state(gone(s(), (0,) * 5)))
        self.check_as_it_was()

    def test_an_action_that_takes_back_more_than_it_did(self):
        def action(run):
            run.go(0)
            run.back(4)
            kept = state(run)
            run.back(1)
            run.go(0)
            run.go(0)
            run.go(1)
            run.go(0)
            return kept
        self.assertEqual(self.run_of_s.trying(action), state(gone(s(), (0,))))
        self.check_as_it_was()
        self.run_of_s.trying(lambda run: run.back(4))
        self.check_as_it_was()

    def test_an_action_that_takes_back_and_goes_another_way(self):
        run = gone(s(), (0, 0, 1, 0))
        run.trying(lambda run: [run.back(2), run.go(0), run.go(0), run.go(0), run.go(0), run.go(1), run.go(0)])
        self.assertEqual(state(run), state(gone(s(), (0, 0, 1, 0))))
        run.back(2)
        self.assertEqual(state(run), state(gone(s(), (0, 0))))

    def test_an_action_that_raises(self):
        for error in (ValueError("x"), Over(), KeyError("x"), Stop(), KeyboardInterrupt(), StopIteration(),
                      RecursionError(), AssertionError()):
            def action(run):
                run.go(0)
                run.back(3)
                run.go(0)
                raise error
            with self.assertRaises(type(error)) as caught:
                self.run_of_s.trying(action)
            self.assertIs(caught.exception, error)
            self.check_as_it_was()

    def test_errors_of_the_run_go_on(self):
        run = self.run_of_s
        self.assertIs(type(raised(run.trying, lambda run: [run.go(0), run.go(5)])), NoWay)
        self.check_as_it_was()
        self.assertIs(type(raised(run.trying, lambda run: run.back(5))), NoNumber)
        self.check_as_it_was()
        self.assertIs(type(raised(run.trying, lambda run: [run.go(number) for number in (0, 0, 1, 0, 0, 0)])), Over)
        self.check_as_it_was()

    def test_a_trial_within_a_trial(self):
        def inner(run):
            run.back(5)
            run.go(0)
            return state(run)

        def outer(run):
            run.go(0)
            kept = state(run)
            found = run.trying(inner)
            self.assertEqual(state(run), kept)
            run.go(0)
            self.assertIs(type(raised(run.trying, lambda run: [run.back(6), run.back(1)])), NoNumber)
            return found, state(run)

        found = self.run_of_s.trying(outer)
        self.assertEqual(found, (state(gone(s(), (0,))), state(gone(s(), (0,) * 6))))
        self.check_as_it_was()

    def test_a_trial_within_a_trial_that_raises(self):
        def outer(run):
            run.back(2)
            run.trying(lambda run: run.back(3))
        self.assertIs(type(raised(self.run_of_s.trying, outer)), NoNumber)
        self.check_as_it_was()

    def test_a_copy_outlives_the_trial(self):
        def action(run):
            run.go(0)
            return run.copy()
        other = self.run_of_s.trying(action)
        self.assertEqual(state(other), state(gone(s(), (0,) * 5)))
        self.check_as_it_was()
        other.back(5)
        self.check_as_it_was()

    def test_a_trial_of_a_copy_leaves_the_run(self):
        other = self.run_of_s.copy()
        other.trying(lambda run: run.back(4))
        self.check_as_it_was()
        self.check_as_it_was(other)

    def test_copies_made_ahead_of_a_trial(self):
        other = self.run_of_s.copy()
        self.run_of_s.trying(lambda run: [run.back(1), run.go(0), run.go(0)])
        self.check_as_it_was(other)

    def test_a_trial_at_the_beginning_and_at_the_end(self):
        run = Run(s())
        run.trying(lambda run: [run.go(0), run.go(0)])
        self.assertEqual(state(run), (0, {}, (), []))
        self.assertIs(type(raised(run.back, 1)), NoNumber)
        run = gone(s(), (0, 0, 1, 0, 0))
        run.trying(lambda run: run.back(5))
        self.assertEqual(state(run), state(gone(s(), (0, 0, 1, 0, 0))))
        self.assertIs(type(raised(run.go, 0)), Over)

    def test_long_trials(self):
        run = gone(ring(30), (0,) * 2000)
        kept = state(run)
        run.trying(lambda run: [run.go(0) for _ in range(3000)])
        self.assertEqual(state(run), kept)
        run.trying(lambda run: run.back(2000))
        self.assertEqual(state(run), kept)


if __name__ == "__main__":
    unittest.main()
