import random
import unittest

from fullbelts.errors import NotFull, NoWay
from fullbelts.pieces import heirs, pieces
from fullbelts.programs import Program
from reckoning import ways
from samples import check_unchanged, faultless_programs, goals, grown, grown_ring, odd_things, raised, s
from turners import AT_A_MAKE, BOTH, FORKED, ITSELF, LONE, NOWHERE, SEVEN, apart, changed_turners, turner_of, wide
from turning import kind_raised, slow_full, slow_heirs, slow_need, slow_pieces

PROGRAMS = changed_turners(120, 21) + tuple(
    [program for program in faultless_programs(120) if slow_need(program) > 0])


def full_ways(program):
    full = slow_full(program)
    return [(place, number) for place, number in ways(program)
            if place in full and goals(program.steps[place])[number] in full]


def expected(program, thing):
    """The error that heirs raises of a thing, or None."""
    if type(thing) is not tuple or [type(part) for part in thing] != [int, int] or thing not in ways(program):
        return NoWay
    return None if thing in full_ways(program) else NotFull


class Heirs(unittest.TestCase):
    def test_samples(self):
        self.assertEqual(heirs(s(), (2, 0)), {"x": "x", "y": "y"})
        self.assertEqual(heirs(s(), (2, 1)), {"x": "x", "y": "y"})
        self.assertEqual(heirs(s(), (3, 0)), {"x": "t", "y": "y"})
        self.assertEqual(heirs(s(), (4, 0)), {"t": "t", "y": "x"})
        self.assertEqual(heirs(s(), (5, 0)), {"t": "y", "x": "x"})

    def test_the_made_name_itself_is_left(self):
        for way in ((2, 0), (2, 1), (2, 2), (3, 0)):
            self.assertEqual(heirs(ITSELF, way), {"x": "x", "y": "y"})
        program = Program((("make", "x", (), 1), ("make", "x", ("x",), 2), ("tell", "x", 1)))
        self.assertEqual([heirs(program, (place, 0)) for place in (1, 2)], [{"x": "x"}] * 2)

    def test_a_name_that_is_not_left_though_another_is_read(self):
        program = Program((("make", "x", (), 1), ("make", "y", (), 2), ("make", "x", ("x", "y"), 3), ("tell", "x", 4),
                           ("tell", "y", 5), ("end",)))
        self.assertEqual(heirs(program, (2, 0)), {"x": "x", "y": "y"})
        program = Program((("make", "x", (), 1), ("make", "y", (), 2), ("make", "z", ("x", "y"), 3), ("tell", "z", 4),
                           ("tell", "y", 5), ("end",)))
        self.assertEqual(heirs(program, (2, 0)), {"x": "z", "y": "y"})

    def test_many_programs(self):
        many = 0
        for program in PROGRAMS:
            full = full_ways(program)
            for way in ways(program):
                if way in full:
                    found = heirs(program, way)
                    self.assertEqual(found, slow_heirs(program, way))
                    self.assertIs(type(found), dict)
                    many += 1
                else:
                    self.assertIs(kind_raised(heirs, program, way), NotFull)
        self.assertGreater(many, 500)

    def test_ways_that_are_not_full(self):
        # The place is not full, the goal is not, neither is; 8 has no way, 3 of ITSELF is a make.
        for way in ((0, 0), (1, 0), (6, 0), (7, 0)):
            self.assertIs(kind_raised(heirs, s(), way), NotFull)
        for way in ((1, 0), (2, 0)):
            self.assertIs(kind_raised(heirs, AT_A_MAKE, way), NotFull)
        self.assertIs(kind_raised(heirs, ITSELF, (4, 0)), NotFull)
        for place in range(3):
            self.assertIs(kind_raised(heirs, NOWHERE, (place, 0)), NotFull)

    def test_places_that_are_not_reached_are_not_full(self):
        program = Program(s().steps[:8] + (("end",), ("tell", "x", 10), ("tell", "y", 9)))
        self.assertEqual(pieces(program), [[2, 3, 4, 5, 6]])
        self.assertIs(kind_raised(heirs, program, (9, 0)), NotFull)

    def test_what_is_no_way(self):
        for thing in [(8, 0), (9, 0), (2, 2), (2, -1), (-1, 0), (3, 1), (True, 0), (3, False), (2, True), [3, 0], (3,),
                      (3, 0, 0), (3, 0, True), (10 ** 59, 0), (3, 10 ** 59), ("3", 0), None, 3, "30", *odd_things()]:
            self.assertIs(kind_raised(heirs, s(), thing), expected(s(), thing), thing)
            self.assertIs(kind_raised(heirs, NOWHERE, thing), expected(NOWHERE, thing), thing)
        check_unchanged(self, lambda thing: raised(heirs, s(), thing))

    def test_a_changed_answer_spoils_nothing(self):
        found = heirs(s(), (3, 0))
        found.clear()
        self.assertEqual(heirs(s(), (3, 0)), {"x": "t", "y": "y"})
        program = s()
        heirs(program, (3, 0))["x"] = "spoilt"
        self.assertEqual(heirs(program, (3, 0)), {"x": "t", "y": "y"})


class Pieces(unittest.TestCase):
    def test_samples(self):
        for program, found in (
                (s(), [[2, 3, 4, 5, 6]]), (LONE, [[1]]), (NOWHERE, []), (AT_A_MAKE, [[2]]), (ITSELF, [[2, 3]]),
                (FORKED, [[2, 3, 4, 5, 6]]), (BOTH, [[2, 3, 4]])):
            self.assertEqual(pieces(program), found)

    def test_several_pieces(self):
        program = apart([s(), FORKED, AT_A_MAKE, BOTH])
        found = pieces(program)
        self.assertEqual([len(piece) for piece in found], [5, 5, 1, 3])
        self.assertEqual(found, slow_pieces(program))
        self.assertEqual(found, sorted(found))

    def test_a_smaller_program_beside_a_greater_one_has_no_full_place(self):
        program = apart([LONE, s(), LONE])
        self.assertEqual([len(piece) for piece in pieces(program)], [5])

    def test_full_places_that_only_other_places_join(self):
        # Between the two rings y is not wanted; both lead through places that are not full.
        program = Program((("make", "x", (), 1), ("make", "y", (), 2), ("test", "x", (2, 3)), ("tell", "y", 4),
                           ("make", "y", (), 5), ("tell", "x", 6), ("test", "y", (5, 1))))
        self.assertEqual(pieces(program), slow_pieces(program))
        self.assertGreater(len(pieces(program)), 1)

    def test_many_programs(self):
        sizes = set()
        for program in PROGRAMS:
            found = pieces(program)
            self.assertEqual(found, slow_pieces(program))
            self.assertIs(type(found), list)
            self.assertEqual({type(piece) for piece in found} | {list}, {list})
            sizes.add(len(found))
        self.assertTrue({0, 1, 2} <= sizes)

    def test_need_seven(self):
        self.assertEqual(pieces(SEVEN), slow_pieces(SEVEN))
        self.assertEqual(pieces(turner_of("a")), [[1, 2, 3]])

    def test_changed_answers_spoil_nothing(self):
        program = apart([s(), FORKED])
        kept = slow_pieces(program)
        found = pieces(program)
        found[0].append(99)
        found.pop()
        self.assertEqual(pieces(program), kept)

    def test_more_than_forty_places(self):
        self.assertEqual(pieces(grown_ring(self, 5000)), [list(range(1, 5001))])
        program = grown(self, wide(3000))
        self.assertEqual(pieces(program), [list(range(2, 3007))])
        self.assertEqual(heirs(program, (3003, 0)), {"x": "t", "y": "y"})

    def test_programs_stay_as_they_are(self):
        rng = random.Random(1)
        for program in rng.sample(PROGRAMS, 40):
            steps = program.steps
            first = pieces(program)
            self.assertEqual(pieces(Program(steps)), first)
            self.assertEqual(program.steps, steps)


if __name__ == "__main__":
    unittest.main()
