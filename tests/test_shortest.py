import random
import unittest

from carrying import WRONG_PAIRS, begins, goals_for, is_pair, is_shuffle, slow_least, split
from fullbelts.errors import NoHolding, TooLarge
from fullbelts.shortest import least_carries, shortest
from fullbelts.shuffles import shuffled
from samples import check_unchanged, odd_things, raised
from turning import belts_of_size, shapes_of_size

NAMES = ("a", "b", "c", "d", "e")


class Shortest(unittest.TestCase):
    def check(self, begin, goal):
        many = slow_least(begin, goal)
        found = least_carries(begin, goal)
        self.assertEqual(found, many, (begin, goal))
        self.assertIs(type(found), type(many))
        carries = shortest(begin, goal)
        if many is None:
            self.assertIsNone(carries)
        else:
            self.assertTrue(is_shuffle(begin, goal, carries))
            self.assertEqual(len(carries), many)

    def test_samples(self):
        self.assertEqual(least_carries((("x", "y"),), (("y", "x"),)), 1)
        self.assertEqual(shortest((("x", "y"),), (("y", "x"),)), (((0, 1), 0),))
        self.assertIsNone(least_carries((("x",), ("y",)), (("y",), ("x",))))
        self.assertIsNone(shortest((("x",), ("y",)), (("y",), ("x",))))
        self.assertEqual(least_carries((("x",), ("y",), (None,)), (("y",), ("x",), (None,))), 3)
        self.assertEqual(least_carries((("x",), ("y",)), (("y",), (None,))), 1)
        self.assertEqual(least_carries((("x",), ("y",)), ((None,), (None,))), 0)
        self.assertEqual(shortest((("x",), ("y",)), (("x",), ("y",))), ())

    def test_all_of_up_to_three_rooms(self):
        for size in range(1, 4):
            for belts in belts_of_size(size):
                for begin in begins(belts):
                    for goal in goals_for(begin):
                        self.check(begin, goal)

    def test_four_rooms(self):
        rng = random.Random(1)
        for belts in shapes_of_size(4):
            for begin in begins(belts):
                goals = goals_for(begin)
                for goal in rng.sample(goals, min(12, len(goals))):
                    self.check(begin, goal)

    def test_five_rooms(self):
        rng = random.Random(2)
        for belts in [*shapes_of_size(5), (1, 4), (1, 2, 2)]:
            for kept in (5, 4):
                row = list(NAMES[:kept]) + [None] * (5 - kept)
                rng.shuffle(row)
                for left in (5, 4, 4, 3, 2):
                    aims = list(NAMES[:min(left, kept)])
                    aims += [None] * (5 - len(aims))
                    rng.shuffle(aims)
                    self.check(split(row, belts), split(aims, belts))

    def test_never_more_than_shuffled(self):
        rng = random.Random(3)
        for belts in shapes_of_size(5):
            for _ in range(10):
                row, aims = list(NAMES), list(NAMES[:4]) + [None]
                rng.shuffle(row)
                rng.shuffle(aims)
                begin, goal = split(row, belts), split(aims, belts)
                self.assertLessEqual(least_carries(begin, goal), len(shuffled(begin, goal)))
                self.assertGreater(least_carries(begin, goal), -1)

    def test_too_large(self):
        for belts in ((6,), (1,) * 6, (5, 1), (2, 4), (8, 4), (7,)):
            nothing = tuple([(None,) * length for length in belts])
            for call in (least_carries, shortest):
                error = raised(call, nothing, nothing)
                self.assertIs(type(error), TooLarge)
                self.assertEqual(error.most, 5)
                for begin, goal in ((nothing, (("x",) + nothing[0][1:],) + nothing[1:]), (nothing, None),
                                    ((("x",) * 6,), ((None,) * 6,)), (nothing, nothing[:-1]), ([nothing], nothing)):
                    self.assertIs(type(raised(call, begin, goal)), NoHolding)

    def test_wrong_pairs(self):
        for call in (least_carries, shortest):
            for begin, goal in WRONG_PAIRS:
                self.assertIs(type(raised(call, begin, goal)), NoHolding)

    def test_any_thing(self):
        one = (("x", "y"), (None,))
        for call in (least_carries, shortest):
            for thing in odd_things():
                for begin, goal in ((thing, one), (one, thing), (thing, thing), (one, (("x", thing), (None,)))):
                    expected = type(None) if is_pair(begin, goal) else NoHolding
                    self.assertIs(type(raised(call, begin, goal)), expected)
            check_unchanged(self, lambda thing: raised(call, thing, one))
            check_unchanged(self, lambda thing: raised(call, one, thing))


if __name__ == "__main__":
    unittest.main()
