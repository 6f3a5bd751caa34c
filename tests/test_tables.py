import random
import unittest

from fullbelts.codes import Code
from fullbelts.machines import Machine
from fullbelts.programs import Program
from fullbelts.tables import is_table, table
from reckoning import fits_table, held, is_right, many_codes, nothing, rooms_of
from samples import c, check_unchanged, grown_ring, odd_things

CODES = many_codes(300)

NOTHING = Code(Program((("end",), ("tell", "x", 0))), Machine((1, 2)), {1: ((0, 0),)}, {}, {})


def anew(rooms, carries):
    """A program that makes x anew while an elder result of it still stands in a room, on a belt of three."""
    program = Program((("make", "x", (), 1), ("make", "y", ("x",), 2), ("make", "x", ("y",), 3), ("tell", "x", 4),
                       ("tell", "y", 5), ("end",)))
    asked = {1: ((0, 0),), 2: ((0, 0),), 3: ((0, 0),), 4: ((0, 1),)}
    return Code(program, Machine((3,)), {**asked, **rooms}, {0: 0, 1: 0, 2: 0}, carries)


def changed(rng, code, right):
    """The table with one item, place or holding changed."""
    thing = dict(right)
    place = rng.choice(sorted(thing))
    kind = rng.randrange(6)
    if kind == 0:
        del thing[place]
    elif kind == 1:
        thing[rng.choice((len(code.program.steps), -1, "x", *range(len(code.program.steps))))] = thing[place]
    else:
        belt, at = rng.choice(rooms_of(code.machine))
        rows = [list(row) for row in thing[place]]
        rows[belt][at] = rng.choice((None, None, "x", "y", "z", "w", 0, True, "", "X"))
        thing[place] = tuple([tuple(row) for row in rows])
    return thing


class Tables(unittest.TestCase):
    def test_a_right_code(self):
        self.assertEqual(table(c()), {
            0: ((None, None),), 1: (("x", None),), 2: (("y", "x"),), 3: (("y", "x"),), 4: (("t", "y"),),
            5: (("x", "t"),), 6: (("y", "x"),), 7: (("y", "x"),), 8: (("y", "x"),)})

    def test_just_the_reached_places(self):
        self.assertEqual(table(NOTHING), {0: ((None,), (None, None))})
        self.assertIs(is_table(NOTHING, {0: ((None,), (None, None))}), True)
        self.assertIs(is_table(NOTHING, {0: ((None,), (None, None)), 1: (("x",), (None, None))}), False)
        self.assertIs(is_table(NOTHING, {}), False)

    def test_elder_results_are_not_in_the_table(self):
        found = table(anew({}, {}))
        self.assertEqual(found[3], (("x", "y", None),))
        self.assertEqual(found[2], (("y", "x", None),))
        self.assertIsNone(table(anew({3: ((0, 2),)}, {})))
        self.assertIs(is_table(anew({}, {}), {**found, 3: (("x", "y", "x"),)}), False)

    def test_what_is_read_must_be_there(self):
        self.assertIsNone(table(anew({1: ((0, 1),)}, {})))
        self.assertIsNone(table(anew({4: ((0, 0),)}, {})))
        self.assertIsNone(table(anew({}, {(3, 0): (((0, 0), 0),)})))
        self.assertIsNotNone(table(anew({4: ((0, 2),)}, {(3, 0): (((0, 0), 0),)})))

    def test_a_make_reads_ahead_of_putting_in(self):
        program = Program((("make", "x", (), 1), ("make", "x", ("x", "x"), 2), ("tell", "x", 1)))
        code = Code(program, Machine((2,)), {1: ((0, 0), (0, 0)), 2: ((0, 0),)}, {0: 0, 1: 0}, {})
        self.assertEqual(table(code), {0: ((None, None),), 1: (("x", None),), 2: (("x", None),)})
        code = Code(program, Machine((2,)), {1: ((0, 0), (0, 1)), 2: ((0, 0),)}, {0: 0, 1: 0}, {})
        self.assertIsNone(table(code))
        code = Code(program, Machine((2,)), {1: ((0, 1), (0, 0)), 2: ((0, 0),)}, {0: 0, 1: 0}, {
            (0, 0): (((0, 0), 0),), (2, 0): (((0, 0), 0),)})
        self.assertEqual(table(code)[1], (("x", "x"),))

    def test_carries_come_behind_the_make(self):
        program = Program((("make", "x", (), 1), ("tell", "x", 2), ("end",)))
        for carries, right in (({}, False), ({(0, 0): (((0, 0), 1),)}, True), ({(1, 0): (((0, 0), 1),)}, False)):
            code = Code(program, Machine((1, 1)), {1: ((1, 0),)}, {0: 0}, carries)
            self.assertEqual(table(code) is not None, right)

    def test_only_the_carries_of_the_way(self):
        program = Program((("make", "x", (), 1), ("test", "x", (2, 2, 3)), ("tell", "x", 3), ("end",)))
        for carries, right in (
                ({(1, 0): (((0, 0), 1),)}, False), ({(1, 0): (((0, 0), 1),), (1, 1): (((0, 0), 1),)}, True),
                ({(1, 0): (((0, 0), 1),), (1, 2): (((0, 0), 1),)}, False)):
            code = Code(program, Machine((1, 1)), {1: ((0, 0),), 2: ((1, 0),)}, {0: 0}, carries)
            self.assertEqual(table(code) is not None, right)

    def test_a_ring_must_keep_what_it_reads(self):
        program = Program((("make", "x", (), 1), ("test", "x", (2, 3)), ("make", "y", (), 1), ("end",)))
        for belts, lengths, right in (({0: 0, 2: 0}, (3,), False), ({0: 0, 2: 1}, (1, 1), True)):
            code = Code(program, Machine(lengths), {1: ((0, 0),)}, belts, {})
            self.assertEqual(table(code) is not None, right)

    def test_place_0_gone_round(self):
        program = Program((("make", "x", (), 1), ("tell", "x", 0)))
        code = Code(program, Machine((2,)), {1: ((0, 0),)}, {0: 0}, {})
        self.assertEqual(table(code), {0: ((None, None),), 1: (("x", None),)})
        self.assertIs(is_table(code, {0: (("x", None),), 1: (("x", None),)}), False)
        self.assertIs(is_table(code, {0: ((None, None),), 1: (("x", "x"),)}), False)

    def test_many_codes(self):
        right = 0
        for code in CODES:
            found = table(code)
            if is_right(code):
                right += 1
                self.assertEqual(found, held(code))
                self.assertIs(type(found), dict)
                self.assertIs(is_table(code, found), True)
            else:
                self.assertIsNone(found)
                self.assertIs(is_table(code, held(code)), False)
        self.assertGreater(right, 200)
        self.assertLess(right, len(CODES) - 100)

    def test_judging_changed_tables(self):
        rng = random.Random(8)
        judged = {True: 0, False: 0}
        for code in CODES:
            thing = held(code)
            for _ in range(12):
                other = changed(rng, code, thing)
                right = fits_table(code, other)
                judged[right] += 1
                self.assertIs(is_table(code, other), right)
                if right:
                    thing = other
        self.assertGreater(min(judged.values()), 500)

    def test_a_table_may_tell_less_than_the_greatest(self):
        right = table(c())
        self.assertIs(is_table(c(), {**right, 8: ((None, None),)}), True)
        self.assertIs(is_table(c(), {**right, 7: (("y", None),), 8: ((None, None),)}), True)
        self.assertIs(is_table(c(), {**right, 7: (("y", None),)}), False)
        self.assertIs(is_table(c(), {**right, 4: (("t", None),)}), False)
        self.assertIs(is_table(c(), {**right, 3: (("x", "y"),)}), False)

    def test_no_holdings_of_the_machine(self):
        right = table(c())
        for holding in ((), (("y", "x"), ()), (("y", "x", None),), (("y",), ("x",)), ["yx"], [("y", "x")],
                        (["y", "x"],), (("y",),), "yx", ("yx",), None, {0: ("y", "x")}, (("y", 0),), (("y", True),)):
            for place in (0, 2, 8):
                self.assertIs(is_table(c(), {**right, place: holding}), False, holding)

    def test_any_thing_is_judged(self):
        right = table(c())
        for thing in odd_things():
            for made in (thing, {0: thing}, [right, thing], {**right, 2: thing}, {**right, 8: (thing,)},
                         {**right, 8: ((thing, thing),)}, {**right, 0: ((thing, None),)}, {**right, 9: thing}):
                self.assertIs(is_table(c(), made), fits_table(c(), made))
            self.assertIs(is_table(NOTHING, thing), False)
        check_unchanged(self, lambda thing: is_table(c(), thing))
        check_unchanged(self, lambda thing: is_table(c(), {**right, 8: thing}))

    def test_a_changed_answer_spoils_nothing(self):
        code = c()
        found = table(code)
        kept = dict(found)
        found.clear()
        self.assertEqual(table(code), kept)
        self.assertIsNot(table(code), table(code))
        thing = dict(kept)
        is_table(code, thing)
        self.assertEqual(thing, kept)

    def test_a_thousand_carries_on_each_way(self):
        code = c()
        turn = (((0, 1), 0),) * 1000
        full = Code(code.program, code.machine, code.rooms, code.belts, {
            **{(place, 0): turn for place in range(8)}, (2, 1): turn})
        self.assertEqual(table(full), table(code))
        odd = Code(code.program, code.machine, code.rooms, code.belts, {(6, 0): turn[1:]})
        self.assertIsNone(table(odd))

    def test_twelve_names_in_twelve_rooms(self):
        words = "abcdefghijkl"
        steps = tuple([("make", word, (), at + 1) for at, word in enumerate(words)])
        steps += tuple([("tell", word, at + 13) for at, word in enumerate(words)]) + (("end",),)
        rooms = {at + 12: ((0, 7 - at),) if at < 8 else ((1, 11 - at),) for at in range(12)}
        code = Code(Program(steps), Machine((8, 4)), rooms, {at: int(at > 7) for at in range(12)}, {})
        self.assertEqual(table(code)[12], (tuple("hgfedcba"), tuple("lkji")))
        self.assertEqual(table(code)[24], table(code)[12])
        self.assertIs(is_table(code, table(code)), True)
        self.assertEqual(table(code)[0], nothing(code.machine))

    def test_more_than_forty_places(self):
        program = grown_ring(self, 900)
        rooms = {place: ((0, 1),) for place in range(1, 901)}
        turns = {(place, 1): (((0, 1), 0), ((0, 1), 0)) for place in range(1, 901)}
        code = Code(program, Machine((2,)), rooms, {0: 0}, {**turns, (0, 0): (((0, 1), 0),)})
        self.assertEqual(table(code), {0: ((None, None),), **{place: ((None, "x"),) for place in range(1, 902)}})
        self.assertIs(is_table(code, table(code)), True)
        del turns[(900, 1)]
        code = Code(program, Machine((2,)), rooms, {0: 0}, {**turns, (900, 1): (((0, 0), 0),)})
        self.assertIsNone(table(code))


if __name__ == "__main__":
    unittest.main()
