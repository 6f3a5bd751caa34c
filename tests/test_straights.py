import random
import unittest

from fullbelts.errors import NotStraight, TooLarge
from fullbelts.machines import Machine
from fullbelts.programs import Program
from fullbelts.straights import cheapest, heights, is_floor
from fullbelts.verdicts import enough
from making import check_right, cut_off
from samples import all_faults, check_unchanged, faultless_programs, grown, odd_things, raised, s
from straight import Graph, is_straight, slow_cheapest, stirred, straight_programs
from turners import AT_A_MAKE, FORKED, ITSELF, LONE, NOWHERE
from turning import belts_of_size, kind_raised, shapes_of_size, slow_need

SHAPES = [belts for size in range(1, 5) for belts in shapes_of_size(size)]
PROGRAMS = [program for program in straight_programs(150, 1) if slow_need(program) <= 7]
STIRRED = stirred(40, 2)

# Five names that are told in the order of their making, in another one, and backwards.
QUEUE = Program(tuple([("make", name, (), at + 1) for at, name in enumerate("abcd")])
                + tuple([("tell", name, at + 5) for at, name in enumerate("abcd")]) + (("end",),))
TWICE = Program((("go", 1), ("make", "x", (), 2), ("make", "w", (), 3), ("make", "y", ("x", "x"), 4), ("go", 5),
                 ("make", "x", ("y", "x"), 6), ("tell", "x", 7), ("tell", "y", 8), ("end",)))
# Both are made anew of one another: on one belt of two they stand where they shall, in plain rooms a third is needed.
SWAP = Program((("make", "x", (), 1), ("make", "y", (), 2), ("make", "t", ("x",), 3), ("make", "x", ("y",), 4),
                ("make", "y", ("t",), 5), ("tell", "x", 6), ("tell", "y", 7), ("end",)))
SEVEN_NAMES = Program(tuple([("make", name, (), at + 1) for at, name in enumerate("abcdefg")])
                      + tuple([("tell", name, at + 8) for at, name in enumerate("gfedcba")]) + (("end",),))
SAMPLES = [LONE, NOWHERE, AT_A_MAKE, QUEUE, TWICE, SWAP]

NOT_STRAIGHT = [
    s(), FORKED, ITSELF, Program((("make", "x", (), 1), ("tell", "x", 1))),
    Program((("make", "x", (), 1), ("end",), ("end",))), Program((("make", "x", (), 2), ("tell", "x", 2), ("end",))),
    Program((("make", "x", (), 1), ("test", "x", (2, 2)), ("end",))), Program((("make", "x", (), 1), ("go", 0))),
    Program((("go", 1), ("make", "x", (), 0))), Program((("make", "x", (), 1), ("go", 1), ("end",))),
    Program((("make", "x", (), 2), ("end",), ("tell", "x", 1))), cut_off(LONE, (("end",),)),
    Program((("make", "x", (), 1), ("go", 3), ("go", 2), ("end",)))]


def many_carries(code):
    return sum(len(row) for row in code.carries.values())


class Heights(unittest.TestCase):
    def check(self, program, machine):
        found = heights(program, machine)
        graph = Graph(program, machine)
        self.assertEqual(found, graph.heights())
        self.assertIs(type(found), dict)
        self.assertEqual({type(number) for number in found.values()} - {int, type(None)}, set())
        self.assertTrue(all(graph.is_stand(stand) for stand in found))
        return found

    def test_samples(self):
        found = self.check(LONE, Machine((1,)))
        self.assertEqual(found, {(0, ((None,),)): 0, (1, (("x",),)): 0, (2, ((None,),)): 0})
        found = self.check(LONE, Machine((1, 1)))
        self.assertEqual(found[(1, (("x",), ("x",)))], 0)
        self.assertIsNone(found[(1, ((None,), (None,)))])
        self.assertEqual(len(found), 6)
        found = self.check(Program((("make", "x", (), 1), ("make", "y", (), 2), ("tell", "x", 3), ("end",))), Machine((2,)))
        self.assertEqual(found[(1, ((None, "x"),))], 1)
        self.assertEqual(found[(1, (("x", None),))], 0)

    def test_many(self):
        for program in SAMPLES + PROGRAMS[:40] + STIRRED[:10]:
            for belts in SHAPES[:7] if slow_need(program) > 2 else SHAPES:
                self.check(program, Machine(belts))

    def test_belts_in_all_orders(self):
        for program in SAMPLES:
            for belts in belts_of_size(4):
                self.check(program, Machine(belts))

    def test_more_names_than_rooms(self):
        for belts in ((1,), (2,), (1, 1), (3,), (2, 2), (4,)):
            found = self.check(SEVEN_NAMES, Machine(belts))
            self.assertIsNone(found[(0, tuple([(None,) * length for length in belts]))])

    def test_more_than_forty_places(self):
        program = grown(self, (("make", "x", (), 1),) + tuple([("go", place + 1) for place in range(1, 3000)])
                        + (("tell", "x", 3001), ("end",)))
        found = heights(program, Machine((1, 2)))
        self.assertEqual(found[(0, ((None,), (None, None)))], 0)
        self.assertEqual(len(found), 2 + 3000 * 8)
        self.assertIs(is_floor(program, Machine((1, 2)), 0, found), True)

    def test_changed_answers(self):
        first = heights(SWAP, Machine((2,)))
        kept = dict(first)
        first.clear()
        self.assertEqual(heights(SWAP, Machine((2,))), kept)


class Cheapest(unittest.TestCase):
    def check(self, program, machine):
        found = cheapest(program, machine)
        many = slow_cheapest(program, machine)
        if many is None:
            self.assertIsNone(found)
            return None
        self.assertEqual([type(found), type(found[0])], [tuple, int])
        self.assertEqual(found[0], many)
        check_right(self, found[1], program, machine, 1)
        self.assertEqual(many_carries(found[1]), many)
        return many

    def test_samples(self):
        self.assertEqual(self.check(QUEUE, Machine((4,))), 0)
        self.assertEqual(self.check(QUEUE, Machine((1, 1, 1, 1))), 0)
        self.assertIsNone(self.check(QUEUE, Machine((2, 1))))
        self.assertEqual(self.check(SWAP, Machine((2,))), 0)
        self.assertEqual(self.check(SWAP, Machine((1, 1))), 0)
        self.assertEqual(self.check(LONE, Machine((1,))), 0)
        self.assertIsNone(self.check(NOWHERE, Machine((1,))))
        program = Program((("make", "x", (), 1), ("make", "w", (), 2), ("make", "w", (), 3), ("tell", "x", 4), ("end",)))
        self.assertEqual(self.check(program, Machine((2,))), 1)
        self.assertEqual(self.check(program, Machine((3,))), 0)
        self.assertEqual(self.check(program, Machine((1, 1))), 0)

    def test_many(self):
        told = {None: 0, 0: 0, 1: 0, 2: 0, 3: 0}
        for program in SAMPLES + PROGRAMS[:80] + STIRRED:
            for belts in SHAPES:
                machine = Machine(belts)
                many = self.check(program, machine)
                self.assertIs(many is not None, enough(program, machine))
                if many in told:
                    told[many] += 1
                if many is not None:
                    self.assertEqual(heights(program, machine)[Graph(program, machine).begin], many)
        self.assertGreater(min(told.values()), 4)

    def test_belts_in_all_orders(self):
        for program in SAMPLES + PROGRAMS[:15]:
            for belts in belts_of_size(3) + belts_of_size(4):
                self.check(program, Machine(belts))

    def test_no_right_code(self):
        for belts in SHAPES:
            self.assertIsNone(cheapest(SEVEN_NAMES, Machine(belts)))

    def test_equal_calls(self):
        for program in PROGRAMS[:20]:
            for belts in SHAPES:
                first, second = cheapest(program, Machine(belts)), cheapest(Program(program.steps), Machine(belts))
                self.assertTrue(first == second)


def changed_floor(rng, graph, floor):
    """The floor with some entries changed, left out or added."""
    found = dict(floor)
    keys = sorted(found, key=repr)
    for _ in range(rng.choice((1, 1, 1, 2, 5))):
        stand = rng.choice(keys)
        kind = rng.randrange(7)
        if kind == 0:
            found.pop(stand, None)
        elif kind == 1:
            found[stand] = None
        elif kind == 2:
            found[stand] = (floor[stand] or 0) + rng.choice((1, -1, 2, 10 ** 59))
        elif kind == 3:
            found[stand] = rng.choice((True, False, "0", (), -1, 0, b"0"))
        elif kind == 4:
            found = {key: value - 1 if type(value) is int and value > 0 else value for key, value in found.items()}
        else:
            place = rng.randrange(graph.last + 1)
            items = [rng.choice((None, None) + graph.wants[place]) for _ in range(sum(graph.belts))]
            rows = []
            for length in graph.belts:
                rows.append(tuple(items[:length]))
                items = items[length:]
            found[(place, tuple(rows))] = rng.choice((None, 0, 1, 2, 3, 10 ** 59))
    return found


class IsFloor(unittest.TestCase):
    def test_the_seventh_fact(self):
        for program in SAMPLES + PROGRAMS[:40] + STIRRED[:20]:
            for belts in SHAPES[:7]:
                machine = Machine(belts)
                found, best = heights(program, machine), cheapest(program, machine)
                least = 10 ** 59 if best is None else best[0]
                self.assertIs(is_floor(program, machine, least, found), True)
                for other in (least - 1, 0, -1, -10 ** 59):
                    self.assertIs(is_floor(program, machine, other, found), True)
                self.assertIs(is_floor(program, machine, least + 1, found), best is None)
                self.assertIs(is_floor(program, machine, 10 ** 60 - 1, found), best is None)

    def test_many(self):
        rng = random.Random(3)
        told = {True: 0, False: 0}
        for program in SAMPLES + PROGRAMS[:30] + STIRRED[:10]:
            for belts in SHAPES[:7]:
                machine = Machine(belts)
                graph, found = Graph(program, machine), heights(program, machine)
                for _ in range(12):
                    thing = changed_floor(rng, graph, found)
                    least = rng.choice((0, 0, 0, 1, 2, -5, 10 ** 59))
                    right = graph.is_floor(least, thing)
                    told[right] += 1
                    self.assertIs(is_floor(program, machine, least, thing), right, (program.steps, belts, thing))
        self.assertGreater(min(told.values()), 300)

    def test_each_stand_is_needed(self):
        for program, belts in ((TWICE, (2, 1)), (SWAP, (1, 1)), (LONE, (3,))):
            machine = Machine(belts)
            found = heights(program, machine)
            for stand in found:
                thing = {key: found[key] for key in found if key != stand}
                self.assertIs(is_floor(program, machine, 0, thing), False)

    def test_numbers_too_great_by_one(self):
        for program, belts in ((TWICE, (2, 1)), (SWAP, (1, 2)), (LONE, (3,)), (NOWHERE, (2,))):
            machine = Machine(belts)
            graph, found = Graph(program, machine), heights(program, machine)
            for stand in found:
                for value in ((found[stand] or 0) + 1, None):
                    thing = {**found, stand: value}
                    right = graph.is_floor(0, thing)
                    self.assertTrue(found[stand] is None or not right)
                    self.assertIs(is_floor(program, machine, 0, thing), right)

    def test_smaller_numbers(self):
        program, machine = Program((("make", "x", (), 1), ("make", "w", (), 2), ("make", "w", (), 3), ("tell", "x", 4),
                                    ("end",))), Machine((2,))
        found = heights(program, machine)
        self.assertEqual(found[(0, ((None, None),))], 1)
        nought = {stand: 0 for stand in found}
        self.assertIs(is_floor(program, machine, 0, nought), True)
        self.assertIs(is_floor(program, machine, 1, nought), False)
        self.assertIs(is_floor(program, machine, 1, found), True)
        self.assertIs(is_floor(program, machine, 2, found), False)
        self.assertIs(is_floor(program, machine, 1, {**nought, (0, ((None, None),)): 1}), False)

    def test_stands_more(self):
        program, machine = QUEUE, Machine((2, 2))
        graph, found = Graph(program, machine), heights(program, machine)
        more = [
            (1, (("b", None), (None, None))), (2, (("c", "a"), ("b", None))), (7, (("d", "d"), ("d", "d"))),
            (8, (("a", None), (None, None))), (0, (("a", None), (None, None))), (3, (("a", "a"), ("a", "c"))),
            (2, (("a",), ("b", None, None))), (2, (("a", "b"),)), (9, ((None, None), (None, None))),
            (-1, ((None, None), (None, None))), (2, (("a", "b"), ("a", 0))), (4, (("d", "a"), ("b", "b"))),
            (2, (("a", "b"), (None, None)), 0), (2,), ()]
        for stand in more:
            for value in (0, 1, None):
                thing = {**found, stand: value}
                self.assertIs(is_floor(program, machine, 0, thing), graph.is_floor(0, thing))

    def test_any_thing(self):
        machine = Machine((1, 1))
        graph, found = Graph(SWAP, machine), heights(SWAP, machine)
        stand = (2, (("x",), ("y",)))
        self.assertIn(stand, found)
        for thing in odd_things():
            self.assertIs(is_floor(SWAP, machine, 0, thing), False)
            made = {**found, stand: thing}
            self.assertIs(is_floor(SWAP, machine, 0, made), graph.is_floor(0, made))
            made = {**found, (1, (("x",), ("x",))): thing}
            self.assertIs(is_floor(SWAP, machine, 0, made), graph.is_floor(0, made))
            try:
                hash(thing)
            except TypeError:
                continue
            for key in (thing, (thing, stand[1]), (2, thing), (2, (thing, ("x",))), (2, ((thing,), ("x",)))):
                made = {**found, key: 0}
                self.assertIs(is_floor(SWAP, machine, 0, made), graph.is_floor(0, made))
        check_unchanged(self, lambda thing: is_floor(SWAP, machine, 0, thing))
        kept = dict(found)
        self.assertIs(is_floor(SWAP, machine, 0, found), True)
        self.assertEqual(found, kept)
        self.assertIs(is_floor(SWAP, machine, 0, {key: found[key] for key in reversed(list(found))}), True)


class Errors(unittest.TestCase):
    def calls(self):
        return [cheapest, heights] + [
            lambda program, machine, thing=thing: is_floor(program, machine, 0, thing) for thing in ({}, None, odd_things)]

    def test_not_straight(self):
        for program in NOT_STRAIGHT:
            self.assertFalse(is_straight(program))
            self.assertEqual(all_faults(program), [])
            for call in self.calls():
                for belts in SHAPES + [(5,), (8, 4), (1,) * 6]:
                    self.assertIs(kind_raised(call, program, Machine(belts)), NotStraight)
        for program in [*faultless_programs(80), *PROGRAMS]:
            expected = None if is_straight(program) else NotStraight
            self.assertIs(kind_raised(heights, program, Machine((1,))), expected)

    def test_too_large(self):
        for program in SAMPLES:
            for call in self.calls():
                for belts in ((5,), (1,) * 5, (4, 1), (2, 2, 1), (6,), (8, 4), (1,) * 6):
                    error = raised(call, program, Machine(belts))
                    self.assertIs(type(error), TooLarge)
                    self.assertEqual(error.most, 4)
                for belts in belts_of_size(4):
                    self.assertIsNone(raised(call, program, Machine(belts)))


if __name__ == "__main__":
    unittest.main()
