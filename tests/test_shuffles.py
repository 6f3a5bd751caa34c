import random
import unittest

from carrying import (
    WRONG_PAIRS, begins, behind, distances, goals_for, is_pair, is_shuffle, is_there, lengths, split)
from fullbelts.errors import NoHolding
from fullbelts.machines import carried
from fullbelts.shuffles import shuffled
from samples import check_unchanged, odd_things, raised
from turning import alike, belts_of_size, shapes_of_size

NAMES = tuple("abcdefghijkl")


def random_belts(rng, most=12):
    while True:
        belts = tuple([rng.randint(1, 8) for _ in range(rng.randint(1, 6))])
        if sum(belts) <= most:
            return belts


def random_pair(rng, belts, spare):
    """A begin and a goal, which has so many rooms more than names."""
    size = sum(belts)
    there = list(NAMES[:rng.randint(size - spare, size)]) if spare else list(NAMES[:size])
    row = there + [None] * (size - len(there))
    aims = there[:size - spare]
    rng.shuffle(aims)
    aims += [None] * (size - len(aims))
    rng.shuffle(row)
    rng.shuffle(aims)
    return split(row, belts), split(aims, belts)


class Shuffled(unittest.TestCase):
    def check(self, begin, goal):
        found = shuffled(begin, goal)
        self.assertTrue(is_shuffle(begin, goal, found), (begin, goal, found))
        self.assertTrue(is_there(carried(begin, found), goal))
        return found

    def test_samples(self):
        self.check((("x", "y"),), (("y", "x"),))
        self.check((("x",), ("y",), (None,)), (("y",), ("x",), (None,)))
        self.check((("x",), ("y",), ("z",)), (("y",), ("x",), (None,)))
        self.assertIsNone(shuffled((("x",), ("y",)), (("y",), ("x",))))
        self.assertIsNone(shuffled((("x", "y", "z"),), (("x", "z", "y"),)))

    def test_one_room(self):
        for begin in ((("x",),), ((None,),)):
            self.check(begin, begin)
            self.check(begin, ((None,),))

    def test_goal_equal_to_begin(self):
        rng = random.Random(1)
        for _ in range(200):
            begin, _ = random_pair(rng, random_belts(rng), rng.randint(0, 1))
            self.check(begin, begin)

    def test_none_alone(self):
        rng = random.Random(2)
        for _ in range(100):
            belts = random_belts(rng)
            nothing = tuple([(None,) * length for length in belts])
            begin, _ = random_pair(rng, belts, 0)
            self.check(nothing, nothing)
            self.check(begin, nothing)

    def test_some_room_to_spare(self):
        rng = random.Random(3)
        for _ in range(1500):
            belts = random_belts(rng)
            begin, goal = random_pair(rng, belts, rng.randint(1, sum(belts)))
            self.check(begin, goal)

    def test_one_room_to_spare_in_largest_machines(self):
        rng = random.Random(4)
        for belts in ((8, 4), (4, 8), (7, 5), (6, 6), (7, 1, 1, 1, 1, 1), (1, 1, 1, 1, 1, 7), (2,) * 6, (3, 4, 5), (8,),
                      (8, 1, 1, 1, 1), (8, 2, 2), (1,) * 6):
            for _ in range(60):
                self.check(*random_pair(rng, belts, 1))

    def test_names_that_the_goal_has_not(self):
        rng = random.Random(5)
        for belts in ((8, 4), (1,) * 6, (2, 2, 2), (5,)):
            for _ in range(40):
                begin, goal = random_pair(rng, belts, 1)
                full = list(NAMES[:sum(belts)])
                rng.shuffle(full)
                self.check(split(full, belts), goal)

    def test_no_room_to_spare(self):
        rng = random.Random(6)
        some, none = 0, 0
        for _ in range(800):
            begin, goal = random_pair(rng, random_belts(rng, 6), 0)
            if all(alike(one, other) for one, other in zip(begin, goal)):
                some += 1
                self.check(begin, goal)
            else:
                none += 1
                self.assertIsNone(shuffled(begin, goal))
        self.assertGreater(min(some, none), 50)

    def test_belts_that_are_turned(self):
        rng = random.Random(7)
        for _ in range(200):
            begin, _ = random_pair(rng, random_belts(rng), 0)
            cuts = [rng.randrange(len(row)) for row in begin]
            goal = tuple([row[at:] + row[:at] for row, at in zip(begin, cuts)])
            self.check(begin, goal)

    def test_the_fifth_fact(self):
        for size in range(1, 5):
            for belts in belts_of_size(size) if size < 4 else shapes_of_size(4):
                for begin in begins(belts):
                    ahead = distances(begin)
                    for goal in goals_for(begin):
                        there = any(is_there(holding, goal) for holding in ahead)
                        spare = any(None in row for row in goal)
                        turned = all(alike(one, other) for one, other in zip(begin, goal))
                        self.assertEqual(there, spare or turned)
                        found = shuffled(begin, goal)
                        self.assertEqual(found is not None, there)
                        self.assertTrue(found is None or is_shuffle(begin, goal, found))

    def test_wrong_pairs(self):
        for begin, goal in WRONG_PAIRS:
            self.assertFalse(is_pair(begin, goal))
            self.assertIs(type(raised(shuffled, begin, goal)), NoHolding, (begin, goal))

    def test_any_thing(self):
        one = (("x", "y"), (None,))
        for thing in odd_things():
            for begin, goal in ((thing, one), (one, thing), (thing, thing), (one, (("x", thing), (None,))),
                                ((("x", thing), (None,)), (("x", None), (None,))), (((thing,),), ((thing,),)),
                                (one, (thing, (None,))), ((thing, (None,)), one)):
                expected = type(None) if is_pair(begin, goal) else NoHolding
                self.assertIs(type(raised(shuffled, begin, goal)), expected)
        check_unchanged(self, lambda thing: raised(shuffled, thing, one))
        check_unchanged(self, lambda thing: raised(shuffled, one, thing))

    def test_equal_calls(self):
        rng = random.Random(8)
        for _ in range(100):
            belts = random_belts(rng)
            begin, goal = random_pair(rng, belts, 1)
            self.assertEqual(shuffled(begin, goal), shuffled(behind(begin, ()), goal))
            self.assertEqual(lengths(begin), belts)


if __name__ == "__main__":
    unittest.main()
