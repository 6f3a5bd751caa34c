import random
import unittest
from itertools import permutations

from fullbelts.errors import NoNames, NoNumber, NotFull, NoPlace, NoWalk
from fullbelts.pieces import pieces
from fullbelts.programs import Program
from fullbelts.walks import renaming, renamings, ring_for, walk_end
from samples import check_unchanged, faultless_programs, grown, grown_ring, odd_things, raised, s
from turners import (
    AT_A_MAKE, BOTH, FORKED, ITSELF, LONE, NOWHERE, SEVEN, SIX, apart, changed_turners, random_turners, turner_of, wide)
from turning import kind_raised, slow_full, slow_moves, slow_need, slow_pieces, slow_renamings, slow_walk

PROGRAMS = changed_turners(120, 21) + random_turners(4, 40, 22) + tuple(
    [program for program in faultless_programs(60) if slow_need(program) > 0])

RING = ((2, 0, True), (3, 0, True), (4, 0, True), (5, 0, True))

NUMBERS = (-1, True, False, 10 ** 59, -10 ** 59, "0", None, (0,), [0], b"0", {})


def backwards(walk):
    return tuple([(place, number, not forth) for place, number, forth in walk[::-1]])


def random_walk(rng, program, place, most):
    moves, walk, at = slow_moves(program), [], place
    for _ in range(rng.randint(0, most)):
        fitting = [move for move in moves if move[1] == at]
        if fitting:
            move = rng.choice(fitting)
            walk.append(move[0])
            at = move[2]
    return tuple(walk)


def spoilt(rng, walk):
    """The walk with one triple changed, put in or left out."""
    at = rng.randrange(len(walk) + 1)
    kind = rng.randrange(5)
    if kind == 0 or at == len(walk):
        odd = (rng.randrange(9), rng.randrange(3), rng.random() < 0.5)
        return walk[:at] + (odd,) + walk[at:]
    place, number, forth = walk[at]
    changed = ((), ((place, number, not forth),), ((place, number + 1, forth),), ((place + 1, number, forth),),
               ((place, number, int(forth)),))[kind]
    return walk[:at] + changed + walk[at + 1:]


class Walks(unittest.TestCase):
    def test_samples(self):
        self.assertEqual(renaming(s(), 2, RING), {"x": "y", "y": "x"})
        self.assertEqual(walk_end(s(), 2, RING), 2)
        self.assertEqual(renaming(s(), 2, RING[:2]), {"x": "t", "y": "y"})
        self.assertEqual(walk_end(s(), 2, RING[:2]), 4)
        self.assertEqual(renaming(s(), 4, RING[2:]), {"t": "y", "y": "x"})
        self.assertEqual(renaming(s(), 2, RING + ((2, 1, True),)), {"x": "y", "y": "x"})
        self.assertEqual(walk_end(s(), 2, RING + ((2, 1, True),)), 6)

    def test_the_walk_of_no_triples(self):
        for program in PROGRAMS:
            for place, names in slow_full(program).items():
                self.assertEqual(renaming(program, place, ()), {name: name for name in names})
                self.assertEqual(walk_end(program, place, ()), place)

    def test_gone_back(self):
        self.assertEqual(renaming(s(), 2, backwards(RING)), {"x": "y", "y": "x"})
        self.assertEqual(renaming(s(), 4, ((3, 0, False),)), {"t": "x", "y": "y"})
        self.assertEqual(walk_end(s(), 4, ((3, 0, False),)), 3)
        self.assertEqual(renaming(s(), 6, ((2, 1, False), (5, 0, False))), {"x": "x", "y": "t"})
        self.assertIs(kind_raised(renaming, s(), 3, ((3, 0, False),)), NoWalk)
        self.assertIs(kind_raised(renaming, s(), 4, ((3, 0, True),)), NoWalk)

    def test_three_names_forth_and_back(self):
        # Unlike s, what three names become tells forth from back.
        program = turner_of("bca")
        ring = tuple([(place, 0, True) for place in range(3, 8)])
        self.assertEqual(renaming(program, 3, ring), {"a": "b", "b": "c", "c": "a"})
        self.assertEqual(renaming(program, 3, backwards(ring)), {"a": "c", "b": "a", "c": "b"})
        self.assertEqual(renaming(program, 3, ring + ring), {"a": "c", "b": "a", "c": "b"})

    def test_there_and_back_again(self):
        rng = random.Random(4)
        for program in PROGRAMS:
            for place, names in slow_full(program).items():
                walk = random_walk(rng, program, place, 9)
                self.assertEqual(renaming(program, place, walk + backwards(walk)), {name: name for name in names})
                self.assertEqual(walk_end(program, place, walk + backwards(walk)), place)

    def test_on_one_branch_forth_and_on_the_other_back(self):
        ring = ((2, 0, True), (3, 0, True), (4, 0, True), (5, 0, True), (2, 1, False))
        self.assertEqual(renaming(FORKED, 2, ring), {"a": "b", "b": "a"})
        self.assertEqual(walk_end(FORKED, 2, ring), 2)

    def test_ways_from_a_place_to_itself(self):
        walk = ((2, 1, True), (2, 0, False), (2, 2, True), (3, 0, False), (3, 0, True), (2, 2, False))
        self.assertEqual(renaming(ITSELF, 2, walk), {"x": "x", "y": "y"})
        self.assertEqual(walk_end(ITSELF, 2, walk[:3]), 3)

    def test_many_walks(self):
        rng = random.Random(5)
        walks, none = 0, 0
        for program in PROGRAMS:
            for place in slow_full(program):
                walk = random_walk(rng, program, place, 12)
                for thing in (walk, spoilt(rng, walk), spoilt(rng, walk)):
                    found = slow_walk(program, place, thing)
                    if found is None:
                        none += 1
                        self.assertIs(kind_raised(renaming, program, place, thing), NoWalk)
                        self.assertIs(kind_raised(walk_end, program, place, thing), NoWalk)
                    else:
                        walks += 1
                        self.assertEqual((walk_end(program, place, thing), renaming(program, place, thing)), found)
                        self.assertIs(type(walk_end(program, place, thing)), int)
                        self.assertIs(type(renaming(program, place, thing)), dict)
        self.assertGreater(min(walks, none), 300)

    def test_walks_of_some_thousand_triples(self):
        self.assertEqual(renaming(s(), 2, RING * 2000), {"x": "x", "y": "y"})
        self.assertEqual(renaming(s(), 2, RING * 2001), {"x": "y", "y": "x"})
        self.assertEqual(walk_end(s(), 2, RING * 2000 + RING[:3]), 5)
        self.assertIs(kind_raised(walk_end, s(), 2, RING * 2000 + RING[1:]), NoWalk)
        self.assertEqual(renaming(s(), 2, RING * 1001 + backwards(RING * 1000)), {"x": "y", "y": "x"})

    def test_more_than_forty_places(self):
        program = grown(self, wide(2000))
        ring = tuple([(place, 0, True) for place in range(2, 2006)])
        self.assertEqual(renaming(program, 2, ring), {"x": "y", "y": "x"})
        self.assertEqual(renaming(program, 2, backwards(ring)), {"x": "y", "y": "x"})
        self.assertEqual(walk_end(program, 5, ring[3:]), 2)
        self.assertEqual(renamings(program, 0), [("x", "y"), ("y", "x")])
        found = ring_for(program, 0, ("y", "x"))
        self.assertEqual(walk_end(program, 2, found), 2)
        self.assertEqual(renaming(program, 2, found), {"x": "y", "y": "x"})
        self.assertEqual(renamings(grown_ring(self, 900), 0), [("x",)])

    def test_a_changed_answer_spoils_nothing(self):
        program = s()
        renaming(program, 2, RING).clear()
        self.assertEqual(renaming(program, 2, RING), {"x": "y", "y": "x"})
        renaming(program, 2, ())["x"] = "spoilt"
        self.assertEqual(renaming(program, 2, ()), {"x": "x", "y": "y"})


class WalkErrors(unittest.TestCase):
    def test_places(self):
        for call in (renaming, walk_end):
            for thing in [9, *NUMBERS, *odd_things()]:
                if type(thing) is not int or not 0 <= thing < 9:
                    self.assertIs(kind_raised(call, s(), thing, RING), NoPlace)
                    self.assertIs(kind_raised(call, s(), thing, None), NoPlace)
            check_unchanged(self, lambda thing: raised(call, s(), thing, ()))

    def test_places_that_are_not_full(self):
        program = Program(s().steps[:8] + (("end",), ("tell", "x", 10), ("tell", "y", 9)))
        for call in (renaming, walk_end):
            for place in (0, 1, 7, 8, 9, 10):
                for walk in ((), RING, None, [], (0,)):
                    self.assertIs(kind_raised(call, program, place, walk), NotFull)
            for place in range(4):
                self.assertIs(kind_raised(call, NOWHERE, place, ()), NotFull)

    def test_what_is_no_walk(self):
        things = [
            list(RING), [], (RING[0], list(RING[1])), (RING[0], (3, 0)), (RING[0], (3, 0, True, True)), (RING[0], ()),
            (2, 0, True), ((2, 0, 1),), ((2, 0, "True"),), ((2, 0, None),), ((2, False, True),), ((2, True, True),),
            ((True, 0, True),), ((2, 2, True),), ((2, -1, True),), ((-7, 0, True),), ((9, 0, True),), ((8, 0, True),),
            ((1, 0, False),), ((7, 0, False),), ((3, 0, True),), RING[:1] + RING[2:], RING + RING[1:], ((2, 1, True),) * 2,
            ((2, 1, True), (6, 0, True)), ((10 ** 59, 0, True),), ((2, 10 ** 59, True),), "", "walk", {}, None, 0, RING[0],
            (RING,), (RING[0], None), ((2, 0, 0),), ((5, 0, 0),)]
        for call in (renaming, walk_end):
            for thing in things + odd_things():
                expected = None if type(thing) is tuple and len(thing) == 0 else NoWalk
                self.assertIs(kind_raised(call, s(), 2, thing), expected, thing)
            for thing in odd_things():
                for walk in ((thing,), RING + (thing,), ((thing, 0, True),), ((2, thing, True),), ((2, 0, thing),)):
                    found = slow_walk(s(), 2, walk)
                    self.assertIs(kind_raised(call, s(), 2, walk), NoWalk if found is None else None)
            check_unchanged(self, lambda thing: raised(call, s(), 2, thing))
            check_unchanged(self, lambda thing: raised(call, s(), 2, (thing, thing)))


class Renamings(unittest.TestCase):
    def test_samples(self):
        self.assertEqual(renamings(s(), 0), [("x", "y"), ("y", "x")])
        self.assertEqual(renamings(LONE, 0), [("x",)])
        self.assertEqual(renamings(AT_A_MAKE, 0), [("x", "y")])
        self.assertEqual(renamings(ITSELF, 0), [("x", "y")])
        self.assertEqual(renamings(BOTH, 0), [("a", "b")])
        self.assertEqual(renamings(FORKED, 0), [("a", "b"), ("b", "a")])

    def test_names_that_stay(self):
        self.assertEqual(renamings(turner_of("acb"), 0), [("a", "b", "c"), ("a", "c", "b")])
        self.assertEqual(renamings(turner_of("abcd", "abcd"), 0), [("a", "b", "c", "d")])
        self.assertEqual(renamings(turner_of("badc"), 0), [tuple("abcd"), tuple("badc")])

    def test_rings_that_go_one_behind_another(self):
        self.assertEqual(renamings(turner_of("bac", "acb"), 0), sorted(permutations("abc")))
        self.assertEqual(renamings(turner_of("bca"), 0), [tuple("abc"), tuple("bca"), tuple("cab")])

    def test_all_of_six_and_seven_names(self):
        self.assertEqual(renamings(SIX, 0), sorted(permutations("abcdef")))
        self.assertEqual(renamings(SEVEN, 0), sorted(permutations("abcdefg")))

    def test_several_pieces(self):
        program = apart([s(), turner_of("ab"), FORKED])
        self.assertEqual([renamings(program, number) for number in range(3)], slow_renamings(program))
        self.assertEqual([len(renamings(program, number)) for number in range(3)], [2, 1, 2])

    def test_many_programs(self):
        sizes = set()
        for program in PROGRAMS:
            for number, rows in enumerate(slow_renamings(program)):
                found = renamings(program, number)
                self.assertEqual(found, rows)
                self.assertIs(type(found), list)
                self.assertEqual({type(row) for row in found}, {tuple})
                sizes.add(len(found))
        self.assertTrue({1, 2, 3, 4, 6, 24} <= sizes, sizes)

    def test_no_number(self):
        for program in (s(), NOWHERE, apart([s(), FORKED])):
            many = len(pieces(program))
            for thing in [many, *NUMBERS, *odd_things()]:
                if type(thing) is not int or not 0 <= thing < many:
                    self.assertIs(kind_raised(renamings, program, thing), NoNumber)
                    for names in (("x", "y"), ("x",), None):
                        self.assertIs(kind_raised(ring_for, program, thing, names), NoNumber)
        check_unchanged(self, lambda thing: raised(renamings, s(), thing))
        check_unchanged(self, lambda thing: raised(ring_for, s(), thing, ("x", "y")))

    def test_a_changed_answer_spoils_nothing(self):
        program = s()
        renamings(program, 0).clear()
        self.assertEqual(renamings(program, 0), [("x", "y"), ("y", "x")])


class Rings(unittest.TestCase):
    def check(self, program, number, names, row, expected):
        ring = ring_for(program, number, row)
        self.assertEqual(ring is not None, expected)
        if ring is not None:
            place = slow_pieces(program)[number][0]
            self.assertIs(type(ring), tuple)
            self.assertEqual(walk_end(program, place, ring), place)
            self.assertEqual(renaming(program, place, ring), dict(zip(names, row)))
            if len(ring) < 500:
                self.assertEqual(slow_walk(program, place, ring), (place, dict(zip(names, row))))

    def test_many_programs(self):
        for program in PROGRAMS:
            for number, rows in enumerate(slow_renamings(program)):
                names = slow_full(program)[slow_pieces(program)[number][0]]
                for row in permutations(names):
                    self.check(program, number, names, row, row in rows)

    def test_six_and_seven_names(self):
        rng = random.Random(6)
        for program in (SIX, SEVEN):
            names = slow_full(program)[slow_pieces(program)[0][0]]
            for _ in range(25):
                self.check(program, 0, names, tuple(rng.sample(names, len(names))), True)
            self.check(program, 0, names, names[::-1], True)

    def test_samples(self):
        for program, row in ((s(), ("x", "y")), (s(), ("y", "x")), (FORKED, ("b", "a")), (LONE, ("x",))):
            self.check(program, 0, tuple(sorted(row)), row, True)
        for program, row in ((BOTH, ("b", "a")), (ITSELF, ("y", "x")), (turner_of("badc"), tuple("bacd"))):
            self.assertIsNone(ring_for(program, 0, row))

    def test_what_is_not_just_the_names(self):
        things = [
            ["x", "y"], "xy", (), ("x",), ("x", "y", "x"), ("x", "x"), ("y", "y"), ("x", "t"), ("x", "y", "t"),
            ("t", "y", "x"), ("x", None), (None, None), ("x", 0), ("x", True), (("x",), "y"), (["x"], "y"), {"x": "y"},
            ("x", b"y"), None, 0, ("x", ""), ("X", "Y"), ("y", "xx")]
        for thing in things + odd_things():
            if type(thing) is not tuple or thing != ("x", "y"):
                self.assertIs(kind_raised(ring_for, s(), 0, thing), NoNames, thing)
                self.assertIs(kind_raised(ring_for, s(), 0, ("x", thing)), None if thing == "y" else NoNames)
        check_unchanged(self, lambda thing: raised(ring_for, s(), 0, thing))

    def test_equal_calls_and_unchanged_programs(self):
        for program in PROGRAMS[:60]:
            steps = program.steps
            for number, rows in enumerate(slow_renamings(program)):
                self.assertEqual(ring_for(program, number, rows[-1]), ring_for(Program(steps), number, rows[-1]))
                self.assertEqual(renamings(program, number), renamings(Program(steps), number))
            self.assertEqual(program.steps, steps)


if __name__ == "__main__":
    unittest.main()
