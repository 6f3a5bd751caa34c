import random
import unittest

from fullbelts.errors import OtherSize
from fullbelts.lots import deal, lots
from fullbelts.machines import Machine
from fullbelts.programs import Program
from fullbelts.seatings import is_seating, seating
from making import turned
from samples import check_unchanged, grown, odd_things, raised, s
from turners import (
    AT_A_MAKE, BOTH, FORKED, ITSELF, LONE, NOWHERE, SEVEN, SIX, WORDS, apart, changed_turners, random_turners,
    turner_of, wide)
from turning import (
    belts_of_size, kind_raised, slow_enough, slow_is_seating, slow_need, slow_pieces)

PROGRAMS = changed_turners(120, 21) + random_turners(5, 60, 23)

TWO, PLAIN = Machine((2,)), Machine((1, 1))

# A piece whose names turn on a belt of two beside names that stay, and one whose names turn by pairs.
SEVERAL = apart([turner_of("bacd"), turner_of("badc")])


def changed(rng, seats, names):
    """The seating with one place, round or name changed."""
    found = {place: [list(row) for row in rounds] for place, rounds in seats.items()}
    place = rng.choice(sorted(found))
    row = rng.choice(found[place])
    kind = rng.randrange(8)
    if kind == 0:
        del found[place]
    elif kind == 1:
        found[rng.choice((-1, 99, "x", 0, 1))] = found[place]
    elif kind == 2:
        row.pop()
    elif kind == 3:
        row.append(rng.choice(names))
    elif kind == 4:
        row[rng.randrange(len(row))] = rng.choice(names)
    else:
        rows = [(one, at) for one in found[place] for at in range(len(one))]
        (one, at), (other, there) = rng.choice(rows), rng.choice(rows)
        one[at], other[there] = other[there], one[at]
    return {place: tuple([tuple(row) for row in rounds]) for place, rounds in found.items()}


class Seatings(unittest.TestCase):
    def test_samples(self):
        found = seating(s(), TWO)
        self.assertEqual({place: {frozenset(row) for row in rounds} for place, rounds in found.items()}, {
            2: {frozenset("xy")}, 3: {frozenset("xy")}, 4: {frozenset("ty")}, 5: {frozenset("tx")},
            6: {frozenset("xy")}})
        self.assertIsNone(seating(s(), PLAIN))
        self.assertIsNone(seating(FORKED, PLAIN))
        self.assertTrue(slow_is_seating(FORKED, (2,), seating(FORKED, TWO)))
        self.assertEqual(seating(LONE, Machine((1,))), {1: (("x",),)})

    def test_programs_without_a_full_place(self):
        for machine in (TWO, PLAIN):
            self.assertEqual(seating(NOWHERE, machine), {})
            self.assertIs(is_seating(NOWHERE, machine, {}), True)
            for thing in ({0: (("x", "y"),)}, {1: ()}, [], (), None, {None: None}):
                self.assertIs(is_seating(NOWHERE, machine, thing), False)

    def test_one_place_alone(self):
        for machine, right in ((TWO, {2: (("x", "y"),)}), (PLAIN, {2: (("x",), ("y",))})):
            self.assertIs(is_seating(AT_A_MAKE, machine, right), True)
            self.assertTrue(slow_is_seating(AT_A_MAKE, machine.belts, seating(AT_A_MAKE, machine)))

    def test_names_that_stay_beside_names_that_turn(self):
        program = turner_of("bacd")
        for belts, right in (((2, 2), True), ((2, 1, 1), True), ((1, 2, 1), True), ((1, 1, 2), True), ((4,), False),
                             ((3, 1), False), ((1, 3), False), ((1, 1, 1, 1), False)):
            self.assertEqual(seating(program, Machine(belts)) is not None, right)

    def test_rings_that_turn_rows_of_their_own(self):
        program = turner_of("bacdef", "abdcef", "abcdfe")
        for belts in belts_of_size(6):
            found = seating(program, Machine(belts))
            self.assertEqual(found is not None, sorted(belts) == [2, 2, 2])
            if found is not None:
                self.assertEqual([set(row) for row in found[6]], [{"a", "b"}, {"c", "d"}, {"e", "f"}])

    def test_need_seven(self):
        program = turner_of("bcdefga")
        for belts in belts_of_size(7):
            found = seating(program, Machine(belts))
            self.assertEqual(found is not None, belts == (7,))
            self.assertIsNone(seating(SEVEN, Machine(belts)))
        self.assertIs(is_seating(program, Machine((7,)), seating(program, Machine((7,)))), True)
        program = turner_of("badcfeg")
        found = seating(program, Machine((2, 4, 1)))
        self.assertTrue(slow_is_seating(program, (2, 4, 1), found))

    def test_several_pieces(self):
        for program in (SEVERAL, apart([s(), FORKED, BOTH]), apart([turner_of("bca"), turner_of("cab")])):
            for belts in belts_of_size(slow_need(program)):
                found = seating(program, Machine(belts))
                self.assertEqual(found is not None, slow_enough(program, belts))
                self.assertTrue(found is None or slow_is_seating(program, belts, found))
        for belts, right in (((2, 2), True), ((2, 1, 1), False), ((4,), False), ((1, 3), False)):
            self.assertEqual(seating(SEVERAL, Machine(belts)) is not None, right)

    def test_full_ways_that_lead_back_and_forth(self):
        for program in (BOTH, ITSELF):
            for machine in (TWO, PLAIN):
                found = seating(program, machine)
                self.assertIs(is_seating(program, machine, found), True)
                self.assertTrue(slow_is_seating(program, machine.belts, found))

    def test_many_programs(self):
        rng = random.Random(31)
        some, none = 0, 0
        for program in PROGRAMS:
            for belts in belts_of_size(slow_need(program)):
                machine = Machine(belts)
                found = seating(program, machine)
                self.assertEqual(found is not None, slow_enough(program, belts))
                if found is None:
                    none += 1
                else:
                    some += 1
                    self.assertIs(type(found), dict)
                    self.assertTrue(slow_is_seating(program, belts, found))
                    self.assertIs(is_seating(program, machine, found), True)
                    self.assertIs(is_seating(program, machine, turned(rng, found)), True)
        self.assertGreater(min(some, none), 200)

    def test_the_second_fact(self):
        for program in PROGRAMS:
            numbers = range(len(slow_pieces(program)))
            for belts in belts_of_size(slow_need(program)):
                machine = Machine(belts)
                dealt = all(all(single for _, _, single in lots(program, number))
                            and deal(program, machine, number) is not None for number in numbers)
                self.assertEqual(seating(program, machine) is not None, dealt)

    def test_judging(self):
        rng = random.Random(32)
        judged = {True: 0, False: 0}
        for program in PROGRAMS:
            for belts in belts_of_size(slow_need(program)):
                machine = Machine(belts)
                found = seating(program, machine)
                if found:
                    for _ in range(6):
                        thing = changed(rng, turned(rng, found), WORDS[:5] + ("t",))
                        right = slow_is_seating(program, belts, thing)
                        judged[right] += 1
                        self.assertIs(is_seating(program, machine, thing), right)
        self.assertGreater(min(judged.values()), 200)

    def test_belts_in_another_order(self):
        program = turner_of("bacd")
        found = seating(program, Machine((2, 1, 1)))
        other = {place: rounds[1:] + rounds[:1] for place, rounds in found.items()}
        self.assertIs(is_seating(program, Machine((1, 1, 2)), other), True)
        self.assertIs(is_seating(program, Machine((1, 1, 2)), found), False)
        self.assertIs(is_seating(program, Machine((2, 1, 1)), other), False)
        self.assertIs(is_seating(program, Machine((1, 2, 1)), other), False)

    def test_names_exchanged_at_one_place(self):
        program = turner_of("bcda")
        found = seating(program, Machine((4,)))
        row = found[6][0]
        self.assertIs(is_seating(program, Machine((4,)), {**found, 6: ((row[1], row[0]) + row[2:],)}), False)
        self.assertIs(is_seating(program, Machine((4,)), {**found, 6: (row[2:] + row[:2],)}), True)
        self.assertIs(is_seating(program, Machine((4,)), {**found, 6: (row[::-1],)}), False)

    def test_what_is_no_seating(self):
        right = seating(s(), TWO)
        self.assertIs(is_seating(s(), TWO, right), True)
        for rounds in ([("x", "y")], (["x", "y"],), ("x", "y"), (("x", "y"), ()), (("x",), ("y",)), (("x", "x"),),
                       (("y", "y"),), (("x", "t"),), (("x",),), (("x", "y", "x"),), (("x", None),), ((0, 1),), None,
                       "xy", ("xy",), (), {0: ("x", "y")}, (("x", True),), ((("x",), "y"),), (("x", "y", "t"),)):
            self.assertIs(is_seating(s(), TWO, {**right, 2: rounds}), False)
        for place in right:
            self.assertIs(is_seating(s(), TWO, {key: right[key] for key in right if key != place}), False)
        for place in (0, 1, 7, 8, 9, -1, 10 ** 59, "2", None, (2,)):
            self.assertIs(is_seating(s(), TWO, {**right, place: (("x", "y"),)}), False)
            self.assertIs(is_seating(s(), TWO, {**right, place: ()}), False)
            short = {key: right[key] for key in right if key != 6}
            self.assertIs(is_seating(s(), TWO, {**short, place: right[6]}), False)
        self.assertIs(is_seating(s(), TWO, [right]), False)
        self.assertIs(is_seating(s(), TWO, list(right.items())), False)

    def test_any_thing_is_judged(self):
        right = seating(s(), TWO)
        for thing in odd_things():
            for made in (thing, {**right, 2: thing}, {**right, 3: (thing,)}, {**right, 6: ((thing, "y"),)},
                         {**right, 6: (("x", thing),)}, {**right, 9: thing}, {2: thing}):
                self.assertIs(is_seating(s(), TWO, made), slow_is_seating(s(), (2,), made))
            self.assertIs(is_seating(NOWHERE, TWO, thing), type(thing) is dict and thing == {})
        check_unchanged(self, lambda thing: is_seating(s(), TWO, thing))
        check_unchanged(self, lambda thing: is_seating(s(), TWO, {**right, 2: thing}))

    def test_other_size(self):
        for belts in ((1,), (3,), (1, 1, 1), (2, 1), (8, 4)):
            self.assertIs(kind_raised(seating, s(), Machine(belts)), OtherSize)
            self.assertIs(kind_raised(seating, NOWHERE, Machine(belts)), OtherSize)
            for thing in [seating(s(), TWO), {}, None, *odd_things()]:
                self.assertIs(kind_raised(is_seating, s(), Machine(belts), thing), OtherSize)
            check_unchanged(self, lambda thing: raised(is_seating, s(), Machine(belts), thing))

    def test_changed_answers_and_arguments(self):
        program = s()
        first = seating(program, TWO)
        kept = dict(first)
        self.assertIs(is_seating(program, TWO, first), True)
        self.assertEqual(first, kept)
        first.clear()
        self.assertEqual(seating(program, TWO), kept)
        self.assertEqual(seating(Program(program.steps), Machine((2,))), kept)
        self.assertEqual(program.steps, s().steps)

    def test_any_order_of_the_keys(self):
        right = seating(s(), TWO)
        self.assertIs(is_seating(s(), TWO, {place: right[place] for place in reversed(list(right))}), True)

    def test_more_than_forty_places(self):
        program = grown(self, wide(2000))
        found = seating(program, TWO)
        self.assertEqual(sorted(found), list(range(2, 2007)))
        self.assertIs(is_seating(program, TWO, found), True)
        self.assertIs(is_seating(program, TWO, {**found, 900: (("x", "t"),)}), False)
        self.assertIsNone(seating(program, PLAIN))

    def test_all_renamings_of_six(self):
        for belts in belts_of_size(6):
            self.assertIsNone(seating(SIX, Machine(belts)))


if __name__ == "__main__":
    unittest.main()
