"""What the document promises over the whole program: that its functions agree, and depend on nothing but their arguments."""

import copy
import random
import unittest

from fullbelts.codes import Code
from fullbelts.counting import many_seatings, seating_at
from fullbelts.denials import denial, is_denial
from fullbelts.desks import Desk
from fullbelts.lots import deal, lots
from fullbelts.machines import Machine, carried, empty, put
from fullbelts.makers import code_for, code_with, seats, spare_code
from fullbelts.pieces import heirs, pieces
from fullbelts.programs import Program
from fullbelts.reading import read_code, read_machine, read_program
from fullbelts.refuting import is_refutation, refutation
from fullbelts.rings import ring_carries, sparing_code
from fullbelts.runs import Run
from fullbelts.seatings import is_seating, seating
from fullbelts.shapes import fewest_belts, over, parting, shapes
from fullbelts.shortest import least_carries, shortest
from fullbelts.shuffles import shuffled
from fullbelts.steppers import Stepper
from fullbelts.straights import cheapest, heights, is_floor
from fullbelts.tables import is_table, table
from fullbelts.texts import code_text, machine_text, program_text
from fullbelts.unrolling import copies, is_unrolling, unrolled
from fullbelts.verdicts import enough
from fullbelts.walks import renaming, renamings, ring_for, walk_end
from fullbelts.wants import is_want_route, load, need, want_route, wanted
from fullbelts.webs import fault_route, faults, goal, is_fault_route, led, reached, route_to
from making import are_alike, star
from samples import S_STEPS, c, faultless_programs, goals, odd_things, outcome, s
from straight import straight_programs
from test_rings import plain_rings
from turners import (
    AT_A_MAKE, BOTH, FORKED, ITSELF, LONE, NOWHERE, apart, changed_turners, named, random_turners, turner_of)
from turning import belts_of_size, shapes_of_size, slow_need

PROGRAMS = [LONE, NOWHERE, AT_A_MAKE, BOTH, FORKED, ITSELF, s(), star(["ba"]), star(["bca", "bac"]), star(["badc", "abdc"]),
            apart([s(), FORKED, BOTH]), turner_of("bacd"), *changed_turners(120, 21)[60:100], *random_turners(4, 30, 41),
            *[program for program in faultless_programs(40) if slow_need(program) > 0]]
STRAIGHT = [program for program in straight_programs(20, 9, 5) if slow_need(program) <= 4]


class Agreement(unittest.TestCase):
    def test_verdicts_seatings_denials_and_codes(self):
        for program in PROGRAMS:
            least = need(program)
            for belts in [belts for size in range(1, least + 2) for belts in shapes_of_size(size)]:
                machine = Machine(belts)
                right = enough(program, machine)
                self.assertIs(code_for(program, machine) is not None, right)
                if machine.size <= least:
                    found = denial(program, machine)
                    self.assertIs(found is None, right)
                    self.assertIs(is_denial(program, machine, found), not right)
                if machine.size == least:
                    self.assertIs(seating(program, machine) is not None, right)
                    numbers = range(len(pieces(program)))
                    self.assertIs(all(many_seatings(program, machine, number) > 0 for number in numbers), right)
                    self.assertIs(all(deal(program, machine, number) is not None for number in numbers), right)
                if machine.size > least:
                    self.assertIsNotNone(table(spare_code(program, belts)))

    def test_shapes(self):
        for program in PROGRAMS:
            found = shapes(program)
            self.assertEqual(found, [shape for shape in shapes_of_size(need(program)) if enough(program, Machine(shape))])
            for belts in belts_of_size(need(program)):
                self.assertIs(enough(program, Machine(belts)), tuple(sorted(belts, reverse=True)) in found)
            fewest = fewest_belts(program)
            self.assertIs(fewest is None, not found)
            if found:
                self.assertIsNotNone(code_for(program, Machine(fewest)))
                self.assertEqual(len(fewest), min(map(len, found)))

    def test_copies(self):
        for program in PROGRAMS:
            for belts in belts_of_size(need(program)):
                machine = Machine(belts)
                found = [outcome(copies, program, machine, number) for number in range(len(pieces(program)))]
                for number, many in enumerate(found):
                    if type(many) is int:
                        self.assertIs(many == 1, many_seatings(program, machine, number) > 0)
                if all(type(many) is int for many in found):
                    self.assertIs(all(many == 1 for many in found), enough(program, machine))

    def test_seats(self):
        for program in PROGRAMS:
            for belts in shapes_of_size(need(program)):
                machine = Machine(belts)
                found = seating(program, machine)
                if found is not None:
                    for code in (code_for(program, machine), code_with(program, machine, found)):
                        self.assertIs(is_seating(program, machine, seats(code)), True)
                    self.assertTrue(are_alike(seats(code), found))
                    for place, ring in plain_rings(program, 1)[:3]:
                        self.assertTrue(are_alike(seats(sparing_code(program, machine, found, place, ring)), found))

    def test_over_and_parting(self):
        for size in range(1, 6):
            for one in shapes_of_size(size):
                for other in shapes_of_size(size):
                    program = parting(Machine(one), Machine(other))
                    self.assertIs(program is None, over(Machine(one), Machine(other)))
                    if program is not None:
                        self.assertIsNotNone(code_for(program, Machine(other)))
                        self.assertIsNone(code_for(program, Machine(one)))
                        self.assertIn(tuple(sorted(other, reverse=True)), shapes(program))

    def test_unrolled_programs(self):
        for program in PROGRAMS[:40]:
            for belts in shapes_of_size(need(program)):
                machine = Machine(belts)
                other, origins, code = unrolled(program, machine)
                self.assertIs(enough(other, machine), True)
                self.assertIs(is_seating(other, machine, seats(code)), True)
                self.assertEqual(need(other), need(program))
                for place in reached(other):
                    self.assertEqual(wanted(other)[place], wanted(program)[origins[place]])
                    self.assertEqual(load(other, place), load(program, origins[place]))

    def test_straight_programs(self):
        for program in STRAIGHT:
            for belts in [belts for size in range(1, 5) for belts in shapes_of_size(size)]:
                machine = Machine(belts)
                best = cheapest(program, machine)
                self.assertIs(best is not None, enough(program, machine))
                if best is not None:
                    self.assertIsNotNone(table(best[1]))
                    made = code_for(program, machine)
                    self.assertLessEqual(best[0], sum(len(row) for row in made.carries.values()))
                    self.assertIs(is_floor(program, machine, best[0], heights(program, machine)), True)

    def test_shuffles(self):
        begin, goal = (("a", "b", None), ("c",)), (("b", None, "c"), ("a",))
        self.assertEqual(len(shortest(begin, goal)), least_carries(begin, goal))
        self.assertLessEqual(least_carries(begin, goal), len(shuffled(begin, goal)))
        for carries in (shortest(begin, goal), shuffled(begin, goal)):
            found = carried(begin, carries)
            self.assertEqual([found[0][0], found[0][2], found[1][0]], ["b", "c", "a"])

    def test_the_desk(self):
        for program in PROGRAMS[:30]:
            desk = Desk()
            desk.tell("program p " + program_text(program).replace("\n", "|"))
            self.assertEqual(desk.tell("need p"), str(need(program)))
            for belts in shapes_of_size(need(program)):
                machine = Machine(belts)
                desk.tell("machine m " + machine_text(machine).replace("\n", "|"))
                right = enough(program, machine)
                self.assertEqual(desk.tell("enough p m"), "yes" if right else "no")
                self.assertEqual(desk.tell("code c p m"), "ok" if right else "none")
                if right:
                    self.assertEqual(desk.tell("right c"), "yes")
                    desk.tell("begin c")
                    stepper = Stepper(code_for(program, machine))
                    rng = random.Random(1)
                    for _ in range(20):
                        ahead = goals(program.steps[stepper.place])
                        if ahead:
                            number = rng.randrange(len(ahead))
                            told = " ".join([f"{due}/{found}" for due, found in stepper.go(number)]) or "none"
                            self.assertEqual(desk.tell(f"go {number}"), told)


PROGRAM_CALLS = [
    reached, faults, wanted, need, pieces, shapes, fewest_belts, program_text,
    lambda program: route_to(program, len(program.steps) - 1), lambda program: led(program, 0, ()),
    lambda program: goal(program, (0, 0)), lambda program: fault_route(program, 1, "x"),
    lambda program: is_fault_route(program, 1, "x", (0,)), lambda program: want_route(program, 1, "x"),
    lambda program: is_want_route(program, 1, "x", ()), lambda program: load(program, 1),
    lambda program: heirs(program, (2, 0)), lambda program: lots(program, 0), lambda program: renamings(program, 0),
    lambda program: ring_for(program, 0, renamings(program, 0)[-1]), lambda program: renaming(program, 2, ()),
    lambda program: walk_end(program, 2, ()), lambda program: [Run(program).go(0), Run(program).has()]]
MACHINE_CALLS = [
    enough, seating, denial, unrolled, code_for, lambda program, machine: deal(program, machine, 0),
    lambda program, machine: many_seatings(program, machine, 0), lambda program, machine: seating_at(program, machine, 0, 1),
    lambda program, machine: copies(program, machine, 0), lambda program, machine: is_seating(program, machine, {}),
    lambda program, machine: is_denial(program, machine, ("place", 1)), cheapest, heights,
    lambda program, machine: spare_code(program, machine.belts), lambda program, machine: code_with(program, machine, {}),
    lambda program, machine: ring_carries(program, machine, seating(program, machine) or {}, 2, ((2, 0, True),)),
    lambda program, machine: is_floor(program, machine, 0, {}), lambda program, machine: machine_text(machine),
    lambda program, machine: empty(machine), lambda program, machine: over(machine, Machine((1,) * min(6, machine.size)))]
CODE_CALLS = [table, refutation, code_text, seats, lambda code: is_table(code, {}), lambda code: is_refutation(code, ((), 0)),
              lambda code: code.rooms, lambda code: code.belts, lambda code: code.carries,
              lambda code: read_code(code.program, code.machine, code_text(code)), lambda code: Stepper(code).go(0)]


def same(one, other):
    """Whether two outcomes are equal, of whatever parts they are."""
    if type(one) is not type(other):
        return False
    if type(one) in (tuple, list):
        return len(one) == len(other) and all(same(part, there) for part, there in zip(one, other))
    return one == other


class Constancy(unittest.TestCase):
    def calls(self):
        """Pairs of a call without arguments and one of the same with arguments made anew, in an order as it comes."""
        pairs = []
        for program in PROGRAMS[:25]:
            for call in PROGRAM_CALLS:
                pairs.append((lambda call=call, program=program: outcome(call, program),
                              lambda call=call, program=program: outcome(call, Program(program.steps))))
            for belts in shapes_of_size(need(program)) + shapes_of_size(need(program) + 1)[-2:]:
                for call in MACHINE_CALLS:
                    pairs.append((lambda call=call, program=program, belts=belts: outcome(call, program, Machine(belts)),
                                  lambda call=call, program=program, belts=belts: outcome(
                                      call, Program(program.steps), Machine(belts))))
        for call in CODE_CALLS:
            pairs.append((lambda call=call: outcome(call, c()), lambda call=call: outcome(call, c())))
        random.Random(1).shuffle(pairs)
        return pairs

    def test_the_same_call_gives_the_same_answer_whatever_was_asked_between(self):
        pairs = self.calls()
        first = [call() for call, _ in pairs]
        second = [call() for _, call in reversed(pairs)][::-1]
        for one, other in zip(first, second):
            self.assertTrue(same(one, other), (one, other))

    def test_spoilt_answers_spoil_nothing(self):
        for call, again in self.calls():
            first = call()
            if type(first) in (list, dict):
                kept = copy.deepcopy(first)
                if type(first) is dict:
                    first.clear()
                else:
                    for part in first:
                        if type(part) is list:
                            part.clear()
                    first.clear()
                self.assertEqual(again(), kept)

    def test_programs_machines_and_codes_stay(self):
        for program in PROGRAMS[:12]:
            steps = program.steps
            for belts in shapes_of_size(need(program)):
                machine, kept = Machine(belts), tuple(belts)
                for call in MACHINE_CALLS:
                    outcome(call, program, machine)
                self.assertEqual((program.steps, machine.belts, machine.size), (steps, kept, sum(kept)))
                self.assertTrue(program == Program(steps) and machine == Machine(kept))
        code = c()
        for call in CODE_CALLS:
            outcome(call, code)
        self.assertTrue(code == c())

    def test_equal_to_no_thing_of_another_class(self):
        own = [s(), Machine((2,)), c(), Run(s()), Stepper(c()), Desk()]
        for one in own:
            for thing in odd_things() + own:
                if type(thing) is not type(one):
                    self.assertFalse(one == thing)
                    self.assertTrue(one != thing)


def moved_program(program, at):
    """The program with a place more that nothing leads to, at this number; all from there on are one more."""
    def moved(place):
        return place + (place >= at)

    def step_of(step):
        if step[0] == "test":
            return (*step[:2], tuple([moved(place) for place in step[2]]))
        return step if step[0] == "end" else (*step[:-1], moved(step[-1]))
    steps = [step_of(step) for step in program.steps]
    return Program(tuple(steps[:at] + [("go", at)] + steps[at:])), moved


def renamed_thing(thing, new):
    """The thing with all names in it exchanged."""
    if type(thing) is str:
        return new.get(thing, thing)
    if type(thing) in (tuple, list):
        return type(thing)([renamed_thing(part, new) for part in thing])
    if type(thing) is dict:
        return {renamed_thing(key, new): renamed_thing(value, new) for key, value in thing.items()}
    return thing


class OnlyTheirOrder(unittest.TestCase):
    NEW = {"a": "aa", "b": "abc", "c": "b", "d": "dzzzzzzz", "e": "f", "f": "fa", "g": "fb", "t": "tt", "w": "u", "x": "v", "y": "vv",
           "z": "zebra"}
    CALLS = [pieces, lambda program: [lots(program, number) for number in range(len(pieces(program)))],
             lambda program: [renamings(program, number) for number in range(len(pieces(program)))], wanted, shapes, need, reached]

    def test_names(self):
        self.assertEqual([self.NEW[name] for name in sorted(self.NEW)], sorted(self.NEW.values()))
        for program in PROGRAMS:
            other = named(program, self.NEW)
            for call in self.CALLS:
                self.assertEqual(call(other), renamed_thing(call(program), self.NEW))
            for belts in belts_of_size(need(program)):
                machine = Machine(belts)
                self.assertIs(enough(other, machine), enough(program, machine))
                for number in range(len(pieces(program))):
                    for call in (deal, many_seatings, copies):
                        self.assertEqual(outcome(call, other, machine, number), outcome(call, program, machine, number))
                    found = [seating_at(one, machine, number, 1) for one in (program, other)]
                    self.assertEqual(renamed_thing(found[0], self.NEW), found[1])
                found = seating(program, machine)
                if found is not None:
                    thing = {place: renamed_thing(rounds, self.NEW) for place, rounds in found.items()}
                    self.assertIs(is_seating(other, machine, thing), True)
                    for place, ring in plain_rings(program, 1)[:2]:
                        self.assertEqual(ring_carries(other, machine, thing, place, ring),
                                         ring_carries(program, machine, found, place, ring))

    def test_names_in_another_order(self):
        rng = random.Random(2)
        for program in PROGRAMS[:40]:
            words = list(self.NEW)
            rng.shuffle(words)
            other = named(program, dict(zip(self.NEW, words)))
            self.assertEqual((need(other), pieces(other), shapes(other)), (need(program), pieces(program), shapes(program)))
            for belts in shapes_of_size(need(program)):
                machine = Machine(belts)
                for number in range(len(pieces(program))):
                    for call in (many_seatings, copies):
                        self.assertEqual(outcome(call, other, machine, number), outcome(call, program, machine, number))

    def test_places(self):
        rng = random.Random(3)
        for program in PROGRAMS:
            if len(program.steps) < 40:
                other, moved = moved_program(program, rng.randint(1, len(program.steps)))
                self.assertEqual(reached(other), [moved(place) for place in reached(program)])
                self.assertEqual(pieces(other), [[moved(place) for place in piece] for piece in pieces(program)])
                self.assertEqual([wanted(other)[moved(place)] for place in range(len(program.steps))], wanted(program))
                self.assertEqual((need(other), shapes(other)), (need(program), shapes(program)))
                for number in range(len(pieces(program))):
                    self.assertEqual(lots(other, number), lots(program, number))
                    self.assertEqual(renamings(other, number), renamings(program, number))
                for belts in shapes_of_size(need(program)):
                    machine = Machine(belts)
                    found = seating(program, machine)
                    for number in range(len(pieces(program))):
                        self.assertEqual(outcome(copies, other, machine, number), outcome(copies, program, machine, number))
                    if found is not None:
                        thing = {moved(place): rounds for place, rounds in found.items()}
                        self.assertIs(is_seating(other, machine, thing), True)
                        for place, ring in plain_rings(program, 1)[:2]:
                            there = tuple([(moved(at), number, True) for at, number, _ in ring])
                            self.assertEqual(ring_carries(other, machine, thing, moved(place), there),
                                             ring_carries(program, machine, found, place, ring))

    def test_names_of_a_straight_program(self):
        for program in STRAIGHT[:8]:
            for belts in shapes_of_size(3):
                one, other = heights(program, Machine(belts)), heights(named(program, self.NEW), Machine(belts))
                self.assertEqual({(place, renamed_thing(holding, self.NEW)): number
                                  for (place, holding), number in one.items()}, other)

    def test_names_in_shuffles(self):
        rng = random.Random(4)
        for _ in range(60):
            row, aims = list("abcde"), list("abcd") + [None]
            rng.shuffle(row)
            rng.shuffle(aims)
            begin, goal = ((*row[:2],), (*row[2:],)), ((*aims[:2],), (*aims[2:],))
            new = [renamed_thing(thing, self.NEW) for thing in (begin, goal)]
            self.assertEqual(least_carries(*new), least_carries(begin, goal))
            self.assertIsNotNone(shuffled(*new))


class NoRecursion(unittest.TestCase):
    def test_long_unrolled_programs(self):
        program = star(["bcdea", "bacde"])
        machine = Machine((1,) * 5)
        other, origins, code = unrolled(program, machine)
        self.assertGreater(len(other.steps), 1000)
        self.assertIs(is_unrolling(program, (other, origins)), True)
        for call in (reached, faults, wanted, need, pieces, program_text, shapes):
            call(other)
        last = reached(other)[-1]
        run, stepper = Run(other), Stepper(code)
        for number in route_to(other, last):
            run.go(number)
            stepper.go(number)
        self.assertEqual((run.place, stepper.place, stepper.wrong()), (last, last, []))
        self.assertIsNone(refutation(code))
        self.assertTrue(read_code(other, machine, code_text(code)) == code)
        self.assertEqual(outcome(read_program, program_text(other))[1], {"part": "steps"})
        self.assertTrue(read_machine(machine_text(machine)) == machine)
        self.assertTrue(code == Code(other, machine, code.rooms, code.belts, code.carries))
        self.assertIsNotNone(table(spare_code(other, (3, 3))))
        found = seats(code)
        self.assertTrue(code_with(other, machine, found) == code)
        place, ring = longest_ring(other)
        self.assertEqual(len(ring_carries(other, machine, found, place, ring)), 5)
        self.assertEqual(put(empty(machine), 0, "x")[0], ("x",))

    def test_steps_of_s(self):
        self.assertTrue(Program(S_STEPS) == s())


def longest_ring(program):
    """A plain ring from the first full place, found by going on until it comes round."""
    place = pieces(program)[0][0]
    row, at = [], place
    while at not in [begin for begin, _, _ in row]:
        row.append((at, 0, True))
        at = goals(program.steps[at])[0]
    first = [begin for begin, _, _ in row].index(at)
    return at, tuple(row[first:])


if __name__ == "__main__":
    unittest.main()
