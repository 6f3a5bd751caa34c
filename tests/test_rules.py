"""The general rules: new lists and dicts each time, equal calls with equal answers."""

import unittest

from fullbelts.programs import Program
from fullbelts.wants import is_want_route, load, need, want_route, wanted
from fullbelts.webs import fault_route, faults, goal, is_fault_route, led, reached, route_to
from samples import S_STEPS, faultless_programs, random_programs

WEB_CALLS = [
    lambda program: goal(program, (0, 0)), lambda program: led(program, 0, ()), reached, faults,
    lambda program: route_to(program, 0), lambda program: fault_route(program, 0, "x"),
    lambda program: is_fault_route(program, 0, "x", ())]
WANT_CALLS = [
    wanted, lambda program: want_route(program, 0, "x"), lambda program: is_want_route(program, 0, "x", ()),
    lambda program: load(program, 0), need]


def outcome(call, program):
    try:
        return call(program)
    except ValueError as error:
        return str(vars(error)), error.__class__.__name__


class Rules(unittest.TestCase):
    def test_equal_calls_give_equal_answers(self):
        for programs, calls in ((random_programs(40), WEB_CALLS), (faultless_programs(40), WANT_CALLS)):
            for program in programs:
                for call in calls:
                    first = outcome(call, program)
                    self.assertEqual(outcome(call, program), first)
                    self.assertEqual(outcome(call, Program(program.steps)), first)

    def test_lists_are_new_each_time(self):
        program = Program(S_STEPS)
        for call in (reached, faults, wanted):
            first = call(program)
            self.assertIsNot(first, call(program))
            first.append("spoilt")
            self.assertNotIn("spoilt", call(program))

    def test_programs_stay_as_they_are(self):
        for program in faultless_programs(40):
            steps = program.steps
            for call in WEB_CALLS + WANT_CALLS:
                outcome(call, program)
            self.assertEqual(program.steps, steps)
            self.assertTrue(program == Program(steps))


if __name__ == "__main__":
    unittest.main()
