import random
import unittest

from fullbelts.errors import NoNumber, OtherSize
from fullbelts.lots import deal, lots
from fullbelts.machines import Machine
from fullbelts.pieces import pieces
from fullbelts.programs import Program
from samples import check_unchanged, grown, odd_things, raised, s
from turners import (
    AT_A_MAKE, FORKED, LONE, NOWHERE, SEVEN, SIX, apart, changed_turners, random_turners, turner_of, wide)
from turning import belts_of_size, kind_raised, slow_deals, slow_full, slow_lots, slow_need, slow_pieces, slow_renamings

# Most of these have several lots.
ROWS = (("badc", "bacd"), ("acbd",), ("abdc", "bacd"), ("bcdea",), ("badcfe", "bacdef"), ("abcdfe",), ("bacdfe",),
        ("bcaefd", "bcadef"), ("badcef", "abcdfe"), ("badec",), ("bacedf",), ("bcaed", "abced"), ("bcadef",))

PROGRAMS = changed_turners(120, 21) + random_turners(5, 60, 23) + tuple([turner_of(*rows) for rows in ROWS])

NUMBERS = (-1, True, False, 10 ** 59, -10 ** 59, "0", None, (0,), [0])


def slow_lots_of(program, number):
    names = slow_full(program)[slow_pieces(program)[number][0]]
    return slow_lots(names, slow_renamings(program)[number])


class Lots(unittest.TestCase):
    def test_samples(self):
        self.assertEqual(lots(s(), 0), [(("x", "y"), 2, True)])
        self.assertEqual(lots(FORKED, 0), [(("a", "b"), 2, True)])
        self.assertEqual(lots(LONE, 0), [(("x",), 1, True)])
        self.assertEqual(lots(AT_A_MAKE, 0), [(("x", "y"), 1, True)])

    def test_names_that_stay_are_one_lot(self):
        self.assertEqual(lots(turner_of("abcd"), 0), [(tuple("abcd"), 1, True)])
        self.assertEqual(lots(turner_of("acbd"), 0), [(("a", "d"), 1, True), (("b", "c"), 2, True)])

    def test_two_pairs_exchanged_together(self):
        self.assertEqual(lots(turner_of("badc"), 0), [(tuple("abcd"), 2, True)])

    def test_two_pairs_that_are_exchanged_in_two_ways(self):
        self.assertEqual(lots(turner_of("badc", "bacd"), 0), [(("a", "b"), 2, True), (("c", "d"), 2, True)])
        # All are led to all, but no renaming makes the others.
        self.assertEqual(lots(turner_of("badc", "cdab"), 0), [(tuple("abcd"), 4, False)])
        self.assertEqual(lots(turner_of("badc", "abdc"), 0), [(("a", "b"), 2, True), (("c", "d"), 2, True)])

    def test_lots_of_one_name(self):
        self.assertEqual(lots(turner_of("bac", "acb"), 0), [((name,), 3, False) for name in "abc"])
        self.assertEqual(lots(turner_of("bca", "bac"), 0), [((name,), 3, False) for name in "abc"])
        self.assertEqual(lots(SIX, 0), [((name,), 6, False) for name in "abcdef"])
        self.assertEqual(lots(SEVEN, 0), [((name,), 7, False) for name in "abcdefg"])
        self.assertEqual(lots(turner_of("acb"), 0), [(("a",), 1, True), (("b", "c"), 2, True)])

    def test_pairs_whose_names_the_renamings_lead_to_the_other_pair(self):
        # What leaves a leaves b and is its own lot, but c and d come to where a and b were.
        program = turner_of("bacd", "cdab")
        self.assertEqual(lots(program, 0), [(("a", "b"), 4, False), (("c", "d"), 4, False)])

    def test_rounds_of_two_lengths(self):
        self.assertEqual(lots(turner_of("badec"), 0), [(("a", "b"), 2, True), (("c", "d", "e"), 3, True)])
        self.assertEqual(lots(turner_of("badcfeg"), 0), [(tuple("abcdef"), 2, True), (("g",), 1, True)])

    def test_a_lot_of_several_rounds_turned_apart(self):
        # One ring turns both rows, the other turns the second row twice as far: powers of one another on each.
        self.assertEqual(lots(turner_of("bcaefd"), 0), [(tuple("abcdef"), 3, True)])
        self.assertEqual(lots(turner_of("bcaefd", "bcafde"), 0),
                         [(("a", "b", "c"), 3, True), (("d", "e", "f"), 3, True)])

    def test_many_programs(self):
        seen = set()
        for program in PROGRAMS:
            for number in range(len(slow_pieces(program))):
                found = lots(program, number)
                self.assertEqual([(names, {span}, single) for names, span, single in found],
                                 slow_lots_of(program, number))
                self.assertIs(type(found), list)
                for lot in found:
                    self.assertEqual([type(part) for part in lot], [tuple, int, bool])
                    seen.add((len(lot[0]), lot[1], lot[2]))
        self.assertTrue({(1, 1, True), (2, 1, True), (2, 2, True), (3, 3, True), (4, 2, True), (4, 4, True),
                         (5, 5, True), (1, 3, False), (1, 4, False), (2, 4, False)} <= seen, seen)

    def test_several_pieces(self):
        program = apart([s(), turner_of("ab"), turner_of("ba")])
        self.assertEqual([lots(program, number) for number in range(3)], [
            [(("x", "y"), 2, True)], [(("a", "b"), 1, True)], [(("a", "b"), 2, True)]])

    def test_no_number(self):
        for program in (s(), NOWHERE, apart([s(), FORKED])):
            many = len(pieces(program))
            for thing in [many, *NUMBERS, *odd_things()]:
                if type(thing) is not int or not 0 <= thing < many:
                    self.assertIs(kind_raised(lots, program, thing), NoNumber)
        check_unchanged(self, lambda thing: raised(lots, s(), thing))

    def test_a_changed_answer_spoils_nothing(self):
        program = s()
        lots(program, 0).clear()
        self.assertEqual(lots(program, 0), [(("x", "y"), 2, True)])

    def test_more_than_forty_places(self):
        program = grown(self, wide(2000))
        self.assertEqual(lots(program, 0), [(("x", "y"), 2, True)])
        self.assertEqual(deal(program, Machine((2,)), 0), (0,))


class Deals(unittest.TestCase):
    def test_samples(self):
        self.assertEqual(deal(s(), Machine((2,)), 0), (0,))
        self.assertIsNone(deal(s(), Machine((1, 1)), 0))
        self.assertEqual(deal(LONE, Machine((1,)), 0), (0,))
        self.assertEqual(deal(AT_A_MAKE, Machine((1, 1)), 0), (0, 0))

    def test_where_one_length_fits_several_lots(self):
        program = turner_of("badc", "bacd")
        self.assertEqual(deal(program, Machine((2, 2)), 0), (0, 1))
        self.assertIsNone(deal(program, Machine((4,)), 0))
        # Both belts of two may be dealt to each lot of two names, and the plain rooms to those that stay alone.
        program = turner_of("abdc")
        self.assertEqual(deal(program, Machine((2, 2)), 0), (0, 1))
        self.assertEqual(deal(program, Machine((2, 1, 1)), 0), (1, 0, 0))
        self.assertEqual(deal(program, Machine((1, 2, 1)), 0), (0, 1, 0))

    def test_lots_on_several_belts(self):
        program = turner_of("badcfeg")
        for belts, found in (((6, 1), (0, 1)), ((1, 6), (1, 0)), ((2, 4, 1), (0, 0, 1)), ((2, 1, 2, 2), (0, 1, 0, 0)),
                             ((3, 3, 1), None), ((7,), None), ((2, 2, 3), None), ((5, 2), None), ((5, 1, 1), None)):
            self.assertEqual(deal(program, Machine(belts), 0), found)

    def test_a_first_belt_that_must_not_go_to_the_first_lot(self):
        # If the belt of two went to the four names that stay, the pair would have none.
        program = turner_of("abcdfe")
        self.assertEqual(deal(program, Machine((2, 3, 1)), 0), (1, 0, 0))
        self.assertEqual(deal(program, Machine((2, 2, 2)), 0), (0, 0, 1))

    def test_lots_that_are_not_single(self):
        for program, belts in ((turner_of("bac", "acb"), (3,)), (turner_of("bac", "acb"), (1, 1, 1)),
                               (turner_of("badc", "cdab"), (4,)), (turner_of("badc", "cdab"), (2, 2)), (SIX, (6,)),
                               (turner_of("bacd", "cdab"), (2, 2)), (SEVEN, (7,))):
            self.assertIsNone(deal(program, Machine(belts), 0))

    def test_many_programs(self):
        some, none = 0, 0
        for program in PROGRAMS:
            for number in range(len(slow_pieces(program))):
                found = slow_lots_of(program, number)
                single = all(lot[2] for lot in found)
                told = [(names, min(span), flag) for names, span, flag in found]
                for belts in belts_of_size(slow_need(program)):
                    deals = slow_deals(told, belts) if single else []
                    self.assertEqual(deal(program, Machine(belts), number), deals[0] if deals else None)
                    some += len(deals) > 1
                    none += not deals
        self.assertGreater(some, 15)
        self.assertGreater(none, 100)

    def test_errors_in_their_order(self):
        program = apart([s(), FORKED])
        for belts in ((1,), (3,), (1, 1, 1), (2, 1), (8, 4)):
            for thing in [0, 1, 2, *NUMBERS, *odd_things()]:
                self.assertIs(kind_raised(deal, program, Machine(belts), thing), OtherSize)
        for thing in [2, *NUMBERS, *odd_things()]:
            if type(thing) is not int or not 0 <= thing < 2:
                self.assertIs(kind_raised(deal, program, Machine((2,)), thing), NoNumber)
                self.assertIs(kind_raised(deal, NOWHERE, Machine((1, 1)), thing), NoNumber)
        self.assertIs(kind_raised(deal, NOWHERE, Machine((1, 1)), 0), NoNumber)
        check_unchanged(self, lambda thing: raised(deal, s(), Machine((2,)), thing))

    def test_equal_calls_and_unchanged_programs(self):
        rng = random.Random(7)
        for program in rng.sample(PROGRAMS, 50):
            steps = program.steps
            machine = Machine(belts_of_size(slow_need(program))[0])
            for number in range(len(slow_pieces(program))):
                self.assertEqual(deal(program, machine, number), deal(Program(steps), Machine(machine.belts), number))
                self.assertEqual(lots(program, number), lots(Program(steps), number))
            self.assertEqual(program.steps, steps)


if __name__ == "__main__":
    unittest.main()
