import random
import unittest
from collections import Counter

from fullbelts.codes import Code
from fullbelts.errors import BadProgram, NoNumber, NotStrong, OtherSize
from fullbelts.machines import Machine
from fullbelts.makers import code_for, seats
from fullbelts.pieces import pieces
from fullbelts.programs import Program
from fullbelts.reading import read_program
from fullbelts.seatings import is_seating, seating
from fullbelts.texts import program_text
from fullbelts.unrolling import copies, is_unrolling, unrolled
from fullbelts.verdicts import enough
from fullbelts.wants import need, wanted
from fullbelts.webs import reached, route_to
from making import check_by_states, check_right, cut_off, star
from samples import S_STEPS, check_unchanged, forms, goals, grown, odd_things, raised, random_programs, s
from turners import (
    AT_A_MAKE, BOTH, FORKED, ITSELF, LONE, NOWHERE, SEVEN, apart, changed_turners, random_turners, wide)
from turning import (
    all_rounds, belts_of_size, kind_raised, replaced, shapes_of_size, slow_full, slow_moves, slow_need, slow_pieces,
    slow_renamings)

TWO, PLAIN = Machine((2,)), Machine((1, 1))

# s without its tells: full ways lead round from each place of its piece to each other one.
STRONG = Program(S_STEPS[:6] + (("end",),))

# Full ways lead from all places of the piece to its first one, and none from there.
SINK = Program((("make", "x", (), 1), ("make", "y", (), 3), ("tell", "x", 4), ("test", "x", (3, 2)), ("tell", "y", 5), ("end",)))

SAMPLES = [STRONG, SINK, s(), LONE, NOWHERE, AT_A_MAKE, BOTH, FORKED, ITSELF, apart([STRONG, s()]), apart([STRONG, STRONG]),
           star(["bca"]), star(["bca", "bac"]), star(["bac", "acb"]), star(["bcda"]), star(["badc", "abdc"]),
           star(["bacd", "acbd"]), star(["bcda", "bacd"]), cut_off(STRONG, (("make", "x", ("q",), 0), ("go", 1)))]
PROGRAMS = SAMPLES + list(changed_turners(120, 21)[:50]) + list(random_turners(4, 30, 37))


def is_strong(program, piece):
    pairs = {(begin, end) for triple, begin, end, _ in slow_moves(program) if triple[2]}
    for begin in piece:
        found, rest = {begin}, [begin]
        while rest:
            place = rest.pop()
            ahead = {end for one, end in pairs if one == place} - found
            found |= ahead
            rest += ahead
        if not set(piece) <= found:
            return False
    return True


def plainly(rounds):
    """Rounds that are told alike if they are alike."""
    return tuple([min(row[at:] + row[:at] for at in range(len(row))) for row in rounds])


def slow_copies(program, lengths, number):
    names = slow_full(program)[slow_pieces(program)[number][0]]
    dicts = [dict(zip(names, row)) for row in slow_renamings(program)[number]]
    return min(len({plainly(replaced(rounds, become)) for become in dicts}) for rounds in all_rounds(names, lengths))


def slow_is_unrolling(program, thing):
    if type(thing) is not tuple or len(thing) != 2 or type(thing[0]) is not Program or type(thing[1]) is not tuple:
        return False
    steps, origins = thing[0].steps, thing[1]
    if len(steps) != len(origins) or origins[0] != 0:
        return False
    if not all(type(origin) is int and origin in range(len(program.steps)) for origin in origins):
        return False
    for step, origin in zip(steps, origins):
        first = program.steps[origin]
        if step[0] != first[0] or [origins[goal] for goal in goals(step)] != list(goals(first)):
            return False
        kept = {"make": 3, "tell": 2, "test": 2, "go": 1, "end": 1}[step[0]]
        if step[:kept] != first[:kept]:
            return False
    return True


def with_goals(step, ahead):
    if step[0] == "test":
        return ("test", step[1], tuple(ahead))
    return step if step[0] == "end" else (*step[:-1], ahead[0])


def random_unrolling(rng, program, most):
    """An unrolling in which each place comes up to so many times, whose ways lead to copies as they come."""
    origins = list(range(len(program.steps)))
    more = [origin for origin in origins for _ in range(rng.randrange(most))]
    origins += more[:40 - len(origins)]
    there = {origin: [place for place, one in enumerate(origins) if one == origin] for origin in origins}
    steps = [with_goals(program.steps[origin], [rng.choice(there[goal]) for goal in goals(program.steps[origin])])
             for origin in origins]
    return Program(tuple(steps)), tuple(origins)


def with_other_goals(rng, other, origins):
    """The unrolling with some goals exchanged for other copies of the same place."""
    steps = list(other.steps)
    for _ in range(rng.randint(0, 2)):
        place = rng.randrange(len(steps))
        ahead = [rng.choice([one for one, origin in enumerate(origins) if origin == origins[goal]])
                 for goal in goals(steps[place])]
        steps[place] = with_goals(steps[place], ahead)
    return Program(tuple(steps))


class IsUnrolling(unittest.TestCase):
    def test_itself(self):
        for program in PROGRAMS + random_programs(100):
            origins = tuple(range(len(program.steps)))
            self.assertIs(is_unrolling(program, (program, origins)), True)
            self.assertIs(is_unrolling(program, (Program(program.steps), origins)), True)

    def test_samples(self):
        # The ring of s twice, and its tells once; a place that is not reached and leads into the ring.
        steps = S_STEPS[:2] + (
            ("test", "x", (3, 10)), ("make", "t", ("x",), 4), ("make", "x", ("y",), 5), ("make", "y", ("t",), 6),
            ("test", "x", (7, 10)), ("make", "t", ("x",), 8), ("make", "x", ("y",), 9), ("make", "y", ("t",), 2),
            ("tell", "x", 11), ("tell", "y", 12), ("end",), ("make", "y", ("t",), 6))
        origins = (0, 1, 2, 3, 4, 5, 2, 3, 4, 5, 6, 7, 8, 5)
        right = (Program(steps), origins)
        self.assertIs(is_unrolling(s(), right), True)
        self.assertIs(is_unrolling(s(), (Program(steps[:-1]), origins[:-1])), True)
        for thing in (
                list(right), right + (0,), right[:1], (steps, origins), (Program(steps), list(origins)),
                (Program(steps), origins[:-1]), (Program(steps), origins + (0,)), (Program(steps), ()),
                (Program(steps), (True, *origins[1:])), (Program(steps), (False, *origins[1:])),
                (Program(steps), (0, True, *origins[2:])), (Program(steps), (1, *origins[1:])),
                (Program(steps), (*origins[:-1], 9)), (Program(steps), (*origins[:-1], -4)),
                (Program(steps), (*origins[:-1], None)), (Program(steps), (*origins[:12], 8, 8)),
                (origins, Program(steps)), (Program(steps), {place: 0 for place in range(14)}), None, (), 0):
            self.assertIs(is_unrolling(s(), thing), False)
        changes = {0: ("make", "y", (), 1), 2: ("test", "y", (3, 10)), 3: ("make", "t", ("y",), 4),
                   4: ("make", "x", ("y", "y"), 5), 5: ("make", "y", ("t",), 7), 6: ("test", "x", (10, 7)),
                   7: ("make", "t", (), 8), 9: ("make", "y", ("t",), 3), 10: ("test", "x", (11, 11)),
                   11: ("tell", "y", 11), 12: ("go", 12), 13: ("go", 6), 8: ("tell", "y", 9), 1: ("end",)}
        for place, step in changes.items():
            other = Program(steps[:place] + (step,) + steps[place + 1:])
            self.assertIs(is_unrolling(s(), (other, origins)), False)
        other = Program(steps[:5] + (("make", "y", ("t",), 2),) + steps[6:])
        self.assertIs(is_unrolling(s(), (other, origins)), True)

    def test_three_goals_in_order(self):
        program = Program((("make", "x", (), 1), ("test", "x", (1, 2, 2)), ("end",)))
        for goals_of_test, right in (((1, 2, 3), True), ((1, 3, 3), True), ((1, 2, 2), True), ((2, 1, 3), False),
                                     ((1, 2), False), ((2, 2, 1), False), ((0, 2, 3), False)):
            other = Program((("make", "x", (), 1), ("test", "x", goals_of_test), ("end",), ("end",)))
            self.assertIs(is_unrolling(program, (other, (0, 1, 2, 2))), right)

    def test_many(self):
        rng = random.Random(1)
        told = {True: 0, False: 0}
        for program in PROGRAMS + random_programs(60):
            if len(program.steps) < 20:
                for _ in range(4):
                    other, origins = random_unrolling(rng, program, 3)
                    if len(program.steps) < 12:
                        thing = (other, origins)
                        self.assertTrue(slow_is_unrolling(program, thing))
                        self.assertIs(is_unrolling(program, thing), True)
                    place = rng.randrange(len(origins))
                    kinds = [
                        (other, origins[:place] + (rng.randrange(len(program.steps)),) + origins[place + 1:]),
                        (random_unrolling(rng, program, 3)[0], origins), (program, origins),
                        (other, tuple(sorted(origins))), (other, origins[::-1])]
                    for thing in kinds:
                        right = slow_is_unrolling(program, thing)
                        told[right] += 1
                        self.assertIs(is_unrolling(program, thing), right)
        self.assertGreater(min(told.values()), 30)

    def test_programs_with_faults(self):
        self.assertIs(is_unrolling(s(), (Program((("tell", "x", 0),)), (0,))), False)
        self.assertIs(is_unrolling(s(), (Program((("tell", "x", 0), ("end",))), (7, 8))), False)

    def test_any_thing(self):
        origins = tuple(range(9))
        for thing in odd_things():
            for made in (thing, (thing, origins), (s(), thing), (s(), (thing,) + origins[1:]), (thing, thing),
                         (s(), origins[:-1] + (thing,)), (s(), origins, thing)):
                self.assertIs(is_unrolling(s(), made), slow_is_unrolling(s(), made))
        check_unchanged(self, lambda thing: is_unrolling(s(), thing))
        check_unchanged(self, lambda thing: is_unrolling(s(), (s(), thing)))

    def test_long_ones(self):
        program = grown(self, wide(600))
        origins = list(range(len(program.steps)))
        self.assertIs(is_unrolling(program, (program, tuple(origins))), True)
        self.assertIs(is_unrolling(program, (s(), tuple(origins[:9]))), False)
        self.assertIs(is_unrolling(program, (program, tuple(origins[:-1] + [0]))), False)


class Copies(unittest.TestCase):
    def test_samples(self):
        self.assertEqual(copies(STRONG, PLAIN, 0), 2)
        self.assertEqual(copies(STRONG, TWO, 0), 1)
        self.assertIs(kind_raised(copies, s(), PLAIN, 0), NotStrong)
        self.assertIs(kind_raised(copies, s(), TWO, 0), NotStrong)
        self.assertEqual(pieces(SINK), [[2, 3]])
        self.assertIs(kind_raised(copies, SINK, TWO, 0), NotStrong)
        self.assertEqual(copies(star(["bca", "bac"]), Machine((3,)), 0), 2)
        self.assertEqual(copies(star(["bca", "bac"]), Machine((2, 1)), 0), 3)
        self.assertEqual(copies(star(["bca", "bac"]), Machine((1, 1, 1)), 0), 6)

    def test_pieces_of_one_place(self):
        for machine in (TWO, PLAIN):
            self.assertEqual(copies(AT_A_MAKE, machine, 0), 1)
        self.assertEqual(copies(LONE, Machine((1,)), 0), 1)

    def test_many(self):
        told = Counter()
        for program in PROGRAMS:
            for belts in belts_of_size(slow_need(program)):
                machine = Machine(belts)
                for number, piece in enumerate(slow_pieces(program)):
                    if is_strong(program, piece):
                        found = copies(program, machine, number)
                        self.assertEqual(found, slow_copies(program, belts, number))
                        self.assertIs(type(found), int)
                        told[found > 1] += 1
                    else:
                        self.assertIs(kind_raised(copies, program, machine, number), NotStrong)
                        told["not strong"] += 1
        self.assertGreater(min(told.values()), 40)

    def test_one_just_where_a_seating_stands(self):
        for program in SAMPLES:
            if slow_pieces(program) and all(is_strong(program, piece) for piece in slow_pieces(program)):
                for belts in belts_of_size(slow_need(program)):
                    found = [copies(program, Machine(belts), number) for number in range(len(slow_pieces(program)))]
                    self.assertEqual(seating(program, Machine(belts)) is not None, max(found) == 1)

    def test_six_and_seven_names(self):
        for rows, belts, many in ((["bcdefa", "bacdef"], (6,), 120), (["bcdefa", "bacdef"], (1,) * 6, 720),
                                  (["bcdefga", "bacdefg"], (2, 1, 1, 1, 1, 1), 2520), (["bcdefga"], (7,), 1),
                                  (["bcdefga"], (6, 1), 7), (["badcfeg"], (2, 2, 2, 1), 1), (["badcfeg"], (7,), 2)):
            self.assertEqual(copies(star(rows), Machine(belts), 0), many)

    def test_errors_in_their_order(self):
        for belts in ((1,), (3,), (1, 2), (8, 4)):
            for number in (0, 1, -1, None, True):
                self.assertIs(kind_raised(copies, STRONG, Machine(belts), number), OtherSize)
                self.assertIs(kind_raised(copies, s(), Machine(belts), number), OtherSize)
        for program, many in ((s(), 1), (NOWHERE, 0), (apart([STRONG, s()]), 2), (FORKED, 1)):
            self.assertEqual(len(slow_pieces(program)), many)
            for number in (many, many + 1, -1, 10 ** 59, True, False, None, "0", (0,), [0], b"0"):
                self.assertIs(kind_raised(copies, program, PLAIN, number), NoNumber)
        for thing in odd_things():
            expected = None if type(thing) is int and thing == 0 else NoNumber
            self.assertIs(kind_raised(copies, STRONG, PLAIN, thing), expected)
        check_unchanged(self, lambda thing: raised(copies, STRONG, PLAIN, thing))
        both = apart([STRONG, s()])
        self.assertEqual(copies(both, PLAIN, 0), 2)
        self.assertIs(kind_raised(copies, both, PLAIN, 1), NotStrong)


class Unrolled(unittest.TestCase):
    def check(self, program, machine, small=False):
        found = unrolled(program, machine)
        self.assertEqual([type(part) for part in found], [tuple, Program, tuple, Code][1:])
        self.assertIs(type(found), tuple)
        other, origins, code = found
        self.assertTrue(slow_is_unrolling(program, (other, origins)))
        self.assertIs(is_unrolling(program, (other, origins)), True)
        check_right(self, code, other, machine, 2, 300)
        if small:
            check_by_states(self, code)
        times = Counter([origins[place] for place in reached(other)])
        self.assertEqual(sorted(times), reached(program))
        full = slow_full(program)
        for place in reached(program):
            if place not in full:
                self.assertEqual(times[place], 1)
        for number, piece in enumerate(slow_pieces(program)):
            if is_strong(program, piece):
                many = copies(program, machine, number)
                self.assertEqual([times[place] for place in piece], [many] * len(piece))
        return found

    def test_samples(self):
        other, origins, _ = self.check(STRONG, PLAIN, True)
        self.assertEqual(Counter(origins), Counter({0: 1, 1: 1, 2: 2, 3: 2, 4: 2, 5: 2, 6: 1}))
        _, origins, _ = self.check(STRONG, TWO, True)
        self.assertEqual(sorted(origins), list(range(7)))
        _, origins, _ = self.check(star(["bca", "bac"]), Machine((3,)), True)
        self.assertEqual(max(Counter(origins).values()), 2)

    def test_many(self):
        several = 0
        for program in PROGRAMS:
            least = slow_need(program)
            for belts in belts_of_size(least):
                other, origins, _ = self.check(program, Machine(belts), least < 3)
                several += len(set(origins)) < len(origins)
        self.assertGreater(several, 60)

    def test_where_a_seating_stands_once_is_enough_for_strong_pieces(self):
        for program in SAMPLES:
            if all(is_strong(program, piece) for piece in slow_pieces(program)):
                for belts in belts_of_size(slow_need(program)):
                    if enough(program, Machine(belts)):
                        other, origins, _ = unrolled(program, Machine(belts))
                        self.assertEqual(max(Counter([origins[place] for place in reached(other)]).values()), 1)

    def test_more_than_forty_places(self):
        program = star(["bcdea", "bacde"])
        for belts in ((5,), (2, 2, 1), (1,) * 5):
            machine = Machine(belts)
            other, origins, code = self.check(program, machine)
            self.assertGreater(len(other.steps), 200)
            self.assertEqual(need(other), 5)
            self.assertEqual([wanted(other)[place] for place in reached(other)],
                             [wanted(program)[origins[place]] for place in reached(other)])
            self.assertTrue(all(place == 0 or route_to(other, place) for place in reached(other)))
            self.assertEqual(sum(map(len, pieces(other))), len([one for one in origins if one in slow_full(program)]))
            self.assertIs(is_seating(other, machine, seats(code)), True)
            self.assertIs(enough(other, machine), True)
            self.assertIsNotNone(code_for(other, Machine(belts[:-1] + (belts[-1] + 1,))))
            error = raised(read_program, program_text(other))
            self.assertIs(type(error), BadProgram)
            self.assertEqual(error.part, "steps")
            again, roots, again_code = unrolled(other, machine)
            self.assertEqual(len(reached(again)), len(reached(other)))
            self.assertIs(is_unrolling(program, (again, tuple([origins[root] for root in roots]))), True)
            check_right(self, again_code, again, machine, 1, 300)

    def test_very_many_places(self):
        program = star(["bcdefga", "bacdefg"])
        machine = Machine((2, 1, 1, 1, 1, 1))
        other, origins, code = unrolled(program, machine)
        self.assertIs(is_unrolling(program, (other, origins)), True)
        self.assertEqual(Counter(origins)[7], 2520)
        self.assertTrue(code.program == other)
        check_right(self, code, other, machine, 1, 3000)

    def test_pieces_that_are_not_strong(self):
        for belts in ((7,), (4, 3), (1, 2, 1, 1, 1, 1)):
            other, origins, code = unrolled(SEVEN, Machine(belts))
            self.assertIs(is_unrolling(SEVEN, (other, origins)), True)
            check_right(self, code, other, Machine(belts), 1, 500)

    def test_other_size(self):
        for program in (STRONG, s(), NOWHERE):
            for belts in ((1,), (3,), (1, 1, 1), (8, 4)):
                self.assertIs(kind_raised(unrolled, program, Machine(belts)), OtherSize)

    def test_the_sixth_fact(self):
        rng = random.Random(5)
        told = {True: 0, False: 0}
        for program in [one for one in SAMPLES if len(one.steps) < 14]:
            strong = [(number, piece) for number, piece in enumerate(slow_pieces(program)) if is_strong(program, piece)]
            for belts in shapes_of_size(slow_need(program)):
                machine = Machine(belts)
                things = [random_unrolling(rng, program, 3) for _ in range(10)]
                for _ in range(60):
                    other, origins, _ = unrolled(program, machine)
                    if len(origins) <= 40:
                        things.append((with_other_goals(rng, other, origins), origins))
                for other, origins in things:
                    self.assertTrue(slow_is_unrolling(program, (other, origins)))
                    times = Counter([origins[place] for place in reached(other)])
                    right = enough(other, machine)
                    for number, piece in strong:
                        many = copies(program, machine, number)
                        told[right] += many > 1
                        self.assertTrue(not right or min(times[place] for place in piece) >= many)
        self.assertGreater(min(told.values()), 60)

    def test_equal_calls(self):
        for program in PROGRAMS[:20]:
            for belts in shapes_of_size(slow_need(program)):
                first, second = unrolled(program, Machine(belts)), unrolled(Program(program.steps), Machine(belts))
                self.assertTrue(first[0] == second[0] and first[1] == second[1] and first[2] == second[2])

    def test_unreached_forms(self):
        self.assertEqual(slow_need(forms()), need(forms()))
        for belts in belts_of_size(need(forms())):
            self.check(forms(), Machine(belts))


if __name__ == "__main__":
    unittest.main()
