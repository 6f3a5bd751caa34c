import random
import unittest

from fullbelts.errors import BadMachine, NoBelt, NoCarries, NoHolding
from fullbelts.machines import Machine, carried, empty, put
from reckoning import carry, holding_of, put_in, random_carries, rows_of
from samples import check_unchanged, nested, odd_things, raised

RIGHT = [
    (1,), (8,), (1, 1), (2, 1), (1, 2), (8, 4), (4, 8), (7, 5), (1, 1, 1, 1, 1, 1), (2, 2, 2, 2, 2, 2),
    (7, 1, 1, 1, 1, 1), (1, 1, 1, 1, 1, 7), (3, 3, 3, 3), (6, 6), (2, 3, 4)]
WRONG = [
    (), (0,), (9,), (-1,), (1, 0), (0, 1), (1, 9), (8, 5), (7, 6), (1, 1, 1, 1, 1, 1, 1), (3, 2, 2, 2, 2, 2),
    (8, 1, 1, 1, 1, 1), (13,), (12,), (True,), (False,), (1, True), (2, False), (10 ** 59,), (-10 ** 59, 10 ** 59),
    (10 ** 59, -10 ** 59, 2), ("1",), (None,), ((1,),), ([1],), (b"1",), [1], [2, 3], {1: 1}, "12", 1, 12, None,
    (2, -1, 3), (1,) * 9999]


def is_lengths(thing):
    return type(thing) is tuple and 1 <= len(thing) <= 6 and all(
        type(length) is int and 1 <= length <= 8 for length in thing) and sum(thing) <= 12


class Machines(unittest.TestCase):
    def test_right_ones(self):
        for belts in RIGHT:
            machine = Machine(belts)
            self.assertEqual(machine.belts, belts)
            self.assertIs(type(machine.belts), tuple)
            self.assertEqual(machine.size, sum(belts))
            self.assertIs(type(machine.size), int)

    def test_wrong_ones(self):
        for belts in WRONG:
            self.assertIs(type(raised(Machine, belts)), BadMachine, belts)

    def test_any_thing(self):
        for thing in odd_things():
            for belts in (thing, (thing,), (1, thing), (thing, 1), (1, 1, thing)):
                expected = type(None) if is_lengths(belts) else BadMachine
                self.assertIs(type(raised(Machine, belts)), expected)
        check_unchanged(self, lambda thing: raised(Machine, thing))
        check_unchanged(self, lambda thing: raised(Machine, (thing,)))

    def test_equality(self):
        for one in RIGHT:
            for other in RIGHT:
                self.assertEqual(Machine(one) == Machine(other), one == other)
                self.assertEqual(Machine(one) != Machine(other), one != other)

    def test_equal_to_no_thing_of_another_class(self):
        class Likeness:
            belts = (2,)
            size = 2
        for thing in [(2,), 2, Likeness(), *odd_things()]:
            if type(thing) is not Machine:
                self.assertFalse(Machine((2,)) == thing)
                self.assertFalse(thing == Machine((2,)))
                self.assertTrue(Machine((2,)) != thing)

    def test_empty(self):
        self.assertEqual(empty(Machine((1,))), ((None,),))
        self.assertEqual(empty(Machine((2, 1, 3))), ((None, None), (None,), (None, None, None)))
        self.assertEqual(empty(Machine((8, 4))), ((None,) * 8, (None,) * 4))


# Things that are a holding of no machine.
NO_HOLDINGS = [
    (), ((),), (("x",), ()), (("x",) * 9,), (("x",) * 8, ("y",) * 5), (("x",),) * 7, [("x",)], (["x"],), ("x",),
    ("xy", "xy"), ((True,),), ((False,),), (("x", True),), (("x",), (b"x",)), (((),),), ((("x",),),), (([],),),
    ((Machine((1,)),),), {}, {0: ("x",)}, None, "x", 0, Machine((1,)), (None,), ((None,), None), ((None,), [None])]


def is_holding(thing):
    if type(thing) is not tuple or any(type(row) is not tuple for row in thing):
        return False
    items = [item for row in thing for item in row]
    return is_lengths(tuple([len(row) for row in thing])) and all(
        item is None or type(item) in (int, str) for item in items)


def random_holding(rng):
    belts = rng.choice(RIGHT)
    return tuple([tuple([rng.choice((None, "x", "y", "zz", 0, 1, 7)) for _ in range(length)]) for length in belts])


class Putting(unittest.TestCase):
    def test_samples(self):
        self.assertEqual(put((("y", "x"), (None,)), 0, "t"), (("t", "y"), (None,)))
        self.assertEqual(put((("y", "x"), (None,)), 1, "t"), (("y", "x"), ("t",)))
        self.assertEqual(put((("a", "b", "c"),), 0, None), ((None, "a", "b"),))
        self.assertEqual(put(((1,),), 0, 2), ((2,),))

    def test_many(self):
        rng = random.Random(3)
        for _ in range(500):
            holding = random_holding(rng)
            for belt in range(len(holding)):
                thing = rng.choice((None, "x", "y", 0, 5))
                rows = rows_of(holding)
                put_in(rows, belt, thing)
                self.assertEqual(put(holding, belt, thing), holding_of(rows))

    def test_things_that_may_stand_in_rooms(self):
        for thing in (None, "", "x", "Any text\n", "~" * 500, 0, -1, 10 ** 59, -10 ** 59):
            self.assertEqual(put(((thing, "x"),), 0, "y"), (("y", thing),))
            self.assertEqual(put((("x", "x"),), 0, thing), ((thing, "x"),))

    def test_largest_machines(self):
        for belts in RIGHT:
            holding = empty(Machine(belts))
            for belt in range(len(belts)):
                after = put(holding, belt, "x")
                self.assertEqual(after[belt], ("x",) + (None,) * (belts[belt] - 1))
                self.assertEqual(after[:belt] + after[belt + 1:], holding[:belt] + holding[belt + 1:])

    def test_no_holding(self):
        for holding in NO_HOLDINGS:
            for belt in (0, 99, None, True):
                self.assertIs(type(raised(put, holding, belt, "x")), NoHolding, holding)

    def test_no_belt(self):
        for belt in (2, 3, -1, -2, True, False, 10 ** 59, "0", None, (0,), [0], b"0"):
            self.assertIs(type(raised(put, (("x",), ("y",)), belt, "x")), NoBelt, belt)
        self.assertIs(type(raised(put, ((None,),), 1, "x")), NoBelt)

    def test_any_thing(self):
        for thing in odd_things():
            for holding in (thing, (thing,), ((thing,),), (("x",), thing), (("x", thing),)):
                expected = type(None) if is_holding(holding) else NoHolding
                self.assertIs(type(raised(put, holding, 0, "x")), expected)
                self.assertIs(type(raised(carried, holding, ())), expected)
            if type(thing) is not int or thing not in (0, 1):
                self.assertIs(type(raised(put, (("x",), ("y",)), thing, "x")), NoBelt)
        check_unchanged(self, lambda thing: raised(put, thing, 0, "x"))
        check_unchanged(self, lambda thing: raised(put, (thing,), 0, "x"))
        check_unchanged(self, lambda thing: raised(put, (("x",),), thing, "x"))


# Things that are no carries for two belts of two rooms and of one.
NO_CARRIES = [
    None, 0, "", "x", {}, {0: 0}, {((0, 0), 0): 0}, range(0), (0,), ((),), (((0, 0),),), (((0, 0), 0, 0),),
    ([(0, 0), 0],), (([0, 0], 0),), (((0, 2), 0),), (((1, 1), 0),), (((2, 0), 0),), (((0, 0), 2),), (((0, 0), -1),),
    (((-1, 0), 0),), (((0, -1), 0),), (((0, 0), True),), (((0, 0), False),), (((True, 0), 0),), (((False, 0), 0),),
    (((0, True), 0),), (((0, False), 0),), (((0, 0), 10 ** 59),), (((10 ** 59, 0), 0),), (((0, 10 ** 59), 0),),
    (((0, 0, 0), 0),), (((0,), 0),), ((0, (0, 0)),), (("00", 0),), (((0, 0), None),), (((0, 0), "0"),),
    (((0, 0), (0,)),), ((0, 0), 0), (((0, 0), 0), ((0, 2), 0)), (((0, 0), 0), None), [[(0, 0), 0]], (((0, "0"), 0),)]


class Carrying(unittest.TestCase):
    HOLDING = (("y", "x"), ("z",))

    def test_samples(self):
        self.assertEqual(carried((("y", "x"), (None,)), [((0, 1), 0), ((0, 0), 1)]), (("x", "y"), ("x",)))
        self.assertEqual(carried(self.HOLDING, (((0, 0), 1),)), (("y", "x"), ("y",)))
        self.assertEqual(carried(self.HOLDING, (((1, 0), 0),)), (("z", "y"), ("z",)))

    def test_no_carries_at_all(self):
        self.assertEqual(carried(self.HOLDING, ()), self.HOLDING)
        self.assertEqual(carried(self.HOLDING, []), self.HOLDING)

    def test_from_a_room_to_its_own_belt(self):
        self.assertEqual(carried(self.HOLDING, [((0, 1), 0)]), (("x", "y"), ("z",)))
        self.assertEqual(carried(self.HOLDING, [((0, 0), 0)]), (("y", "y"), ("z",)))
        self.assertEqual(carried(self.HOLDING, [((1, 0), 1)]), self.HOLDING)
        self.assertEqual(carried((("a", "b", "c"),), [((0, 2), 0)] * 3), (("a", "b", "c"),))

    def test_carries_of_nothing(self):
        self.assertEqual(carried(((None, "x"), (3,)), (((0, 0), 1), ((0, 0), 0))), ((None, None), (None,)))

    def test_one_behind_another(self):
        self.assertEqual(carried((("a",), ("b",)), (((0, 0), 1), ((1, 0), 0))), (("a",), ("a",)))
        self.assertEqual(carried((("a",), ("b",)), (((1, 0), 0), ((0, 0), 1))), (("b",), ("b",)))

    def test_many(self):
        rng = random.Random(4)
        for _ in range(500):
            holding = random_holding(rng)
            carries = random_carries(rng, Machine(tuple([len(row) for row in holding])), 12)
            rows = rows_of(holding)
            carry(rows, carries)
            self.assertEqual(carried(holding, carries), holding_of(rows))
            self.assertEqual(carried(holding, list(carries)), holding_of(rows))

    def test_a_thousand_carries(self):
        turn = ((0, 1), 0)
        self.assertEqual(carried(self.HOLDING, (turn,) * 999), (("x", "y"), ("z",)))
        for carries in ((turn,) * 1000, [turn] * 1000):
            self.assertEqual(carried(self.HOLDING, carries), self.HOLDING)
        for carries in ((turn,) * 1001, [turn] * 1001, (turn,) * 1900, (0,) * 1001):
            self.assertIs(type(raised(carried, self.HOLDING, carries)), NoCarries)

    def test_no_carries(self):
        for carries in NO_CARRIES:
            self.assertIs(type(raised(carried, self.HOLDING, carries)), NoCarries, carries)
        self.assertIs(type(raised(carried, ((None,) * 8,), [((0, 8), 0)])), NoCarries)
        self.assertEqual(carried(((None,) * 7 + ("x",),), [((0, 7), 0)]), (("x",) + (None,) * 7,))

    def test_no_holding_comes_first(self):
        for holding in NO_HOLDINGS:
            for carries in ((), [], None, (0,), (((0, 0), 0),)):
                self.assertIs(type(raised(carried, holding, carries)), NoHolding, holding)

    def test_any_thing(self):
        for thing in odd_things():
            self.assertIs(type(raised(carried, self.HOLDING, thing)),
                          type(None) if type(thing) in (list, tuple) and len(thing) == 0 else NoCarries)
            for carries in ([thing], (((0, 0), 0), thing), [(thing, thing)], [((thing, thing), 0)]):
                self.check(carries)
            if type(thing) is not tuple or thing not in ((0, 0), (0, 1)) or bool in [type(part) for part in thing]:
                self.assertIs(type(raised(carried, self.HOLDING, [(thing, 0)])), NoCarries)
            if type(thing) is not int or thing not in (0, 1):
                for carry_ in (((0, 0), thing), ((0, thing), 0)):
                    self.assertIs(type(raised(carried, self.HOLDING, [carry_])), NoCarries)
                self.assertIs(type(raised(carried, self.HOLDING, ([((thing, 0), 0)]))), NoCarries)
        check_unchanged(self, lambda thing: raised(carried, self.HOLDING, thing))
        check_unchanged(self, lambda thing: raised(carried, thing, ()))
        check_unchanged(self, lambda thing: raised(carried, self.HOLDING, [(thing, 0)]))

    def check(self, carries):
        """These are right just if they are pairs of a room and a belt that two belts of two rooms and one have."""
        rooms = {(0, 0), (0, 1), (1, 0)}
        right = True
        for thing in carries:
            if type(thing) is not tuple or len(thing) != 2 or type(thing[0]) is not tuple:
                right = False
            elif [type(part) for part in thing[0]] != [int, int] or thing[0] not in rooms:
                right = False
            elif type(thing[1]) is not int or thing[1] not in (0, 1):
                right = False
        self.assertIs(type(raised(carried, self.HOLDING, carries)), type(None) if right else NoCarries)

    def test_nothing_passed_is_changed(self):
        carries = [((0, 1), 0), ((0, 0), 1)]
        carried(self.HOLDING, carries)
        self.assertEqual(carries, [((0, 1), 0), ((0, 0), 1)])
        self.assertEqual(self.HOLDING, (("y", "x"), ("z",)))

    def test_things_nested_deep(self):
        for wrap in (lambda thing: (thing,), lambda thing: [thing], lambda thing: (thing, 0)):
            self.assertIs(type(raised(carried, self.HOLDING, nested(40, wrap))), NoCarries)
            self.assertIs(type(raised(carried, nested(40, wrap), ())), NoHolding)


if __name__ == "__main__":
    unittest.main()
