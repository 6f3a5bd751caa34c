import unittest
from math import comb, factorial, gcd

from fullbelts.counting import many_seatings, seating_at
from fullbelts.errors import NoNumber, OtherSize
from fullbelts.lots import lots
from fullbelts.machines import Machine
from fullbelts.pieces import pieces
from fullbelts.programs import Program
from fullbelts.seatings import seating
from samples import check_unchanged, grown, odd_things, raised, s
from turners import (
    AT_A_MAKE, FORKED, LONE, NOWHERE, SEVEN, SIX, apart, changed_turners, random_turners, turner_of, wide)
from turning import (
    belts_of_size, kind_raised, shapes_of_size, slow_deals, slow_fillings, slow_full, slow_need, slow_pieces,
    slow_renamings)

PROGRAMS = changed_turners(120, 21) + random_turners(5, 60, 23)

TWO, PLAIN = Machine((2,)), Machine((1, 1))

NUMBERS = (-1, True, False, 10 ** 59, -10 ** 59, "0", None, (0,), [0])


def phi(many):
    return sum(gcd(many, number) == 1 for number in range(1, many + 1))


def on_one_belt(span, many):
    """As the document reckons it, for a lot of so many rounds of this span."""
    return phi(span) * factorial(many - 1) * span ** (many - 1)


def reckoned(found, lengths):
    """The number of tuples by their deals: which rounds come to which belt, and how they stand there."""
    total = 0
    for dealt in slow_deals(found, lengths):
        product = 1
        for number, (names, span, _) in enumerate(found):
            left = len(names) // span
            for length, lot in zip(lengths, dealt):
                if lot == number:
                    product *= comb(left, length // span) * on_one_belt(span, length // span)
                    left -= length // span
        total += product
    return total


class Many(unittest.TestCase):
    def test_samples(self):
        self.assertEqual(many_seatings(s(), TWO, 0), 1)
        self.assertEqual(many_seatings(s(), PLAIN, 0), 0)
        self.assertEqual(many_seatings(AT_A_MAKE, TWO, 0), 1)
        self.assertEqual(many_seatings(AT_A_MAKE, PLAIN, 0), 2)
        self.assertEqual(many_seatings(LONE, Machine((1,)), 0), 1)

    def test_one_belt_of_names_that_stay(self):
        for many in range(1, 8):
            program = turner_of("abcdefg"[:many])
            self.assertEqual(many_seatings(program, Machine((many,)), 0), factorial(many - 1))

    def test_one_belt_that_one_ring_turns(self):
        for many in range(2, 8):
            program = turner_of("bcdefga"[:many - 1] + "a")
            self.assertEqual(many_seatings(program, Machine((many,)), 0), phi(many))

    def test_one_belt_of_several_rounds(self):
        for word, span, many in (("badc", 2, 2), ("badcfe", 2, 3), ("bcaefd", 3, 2), ("cdefab", 3, 2), ("bcdefa", 6, 1)):
            program = turner_of(word)
            self.assertEqual(lots(program, 0), [(tuple("abcdef"[:len(word)]), span, True)])
            self.assertEqual(many_seatings(program, Machine((len(word),)), 0), on_one_belt(span, many))

    def test_plain_rooms(self):
        for many in range(1, 7):
            program = turner_of("abcdef"[:many])
            self.assertEqual(many_seatings(program, Machine((1,) * many), 0), factorial(many))

    def test_all_tuples_tried_one_by_one(self):
        several = 0
        for program in PROGRAMS:
            full = slow_full(program)
            for number, piece in enumerate(slow_pieces(program)):
                rows = slow_renamings(program)[number]
                for belts in belts_of_size(slow_need(program)):
                    found = slow_fillings(full[piece[0]], belts, rows)
                    machine = Machine(belts)
                    self.assertEqual(many_seatings(program, machine, number), len(found))
                    self.assertIs(type(many_seatings(program, machine, number)), int)
                    for index in {0, 1, len(found) // 2, len(found) - 1, len(found)}:
                        if index >= 0:
                            expected = found[index] if index < len(found) else None
                            self.assertEqual(seating_at(program, machine, number, index), expected)
                    several += len(found) > 1
        self.assertGreater(several, 200)

    def test_six_and_seven_names_by_their_deals(self):
        for word in ("badcfe", "bacdefg", "bcadfe", "bcaefdg", "badcfeg", "abcdefg", "bcdeafg", "bacdfe", "bcdaef"):
            program = turner_of(word)
            for belts in shapes_of_size(len(word)):
                expected = reckoned(lots(program, 0), belts)
                self.assertEqual(many_seatings(program, Machine(belts), 0), expected)
                self.assertEqual(many_seatings(program, Machine(belts[::-1]), 0), expected)

    def test_all_renamings(self):
        for program in (SIX, SEVEN):
            for belts in shapes_of_size(slow_need(program)):
                self.assertEqual(many_seatings(program, Machine(belts), 0), 0)
                self.assertIsNone(seating_at(program, Machine(belts), 0, 0))

    def test_other_pieces_count_for_nothing(self):
        program = apart([turner_of("abc"), turner_of("bac")])
        self.assertEqual([many_seatings(program, Machine((1, 1, 1)), number) for number in (0, 1)], [6, 0])
        self.assertEqual([many_seatings(program, Machine((1, 2)), number) for number in (0, 1)], [3, 1])
        self.assertIsNone(seating(program, Machine((1, 1, 1))))

    def test_with_one_belt_there_are_some_just_if_there_is_a_seating(self):
        for program in PROGRAMS:
            machine = Machine((slow_need(program),))
            many = [many_seatings(program, machine, number) for number in range(len(slow_pieces(program)))]
            self.assertEqual(seating(program, machine) is not None, all(many))


class At(unittest.TestCase):
    def test_in_their_order(self):
        program = turner_of("bacd")
        found = [seating_at(program, Machine((2, 1, 1)), 0, index) for index in range(3)]
        self.assertEqual(found, [(("a", "b"), ("c",), ("d",)), (("a", "b"), ("d",), ("c",)), None])
        self.assertEqual(seating_at(program, Machine((2, 2)), 0, 1), (("c", "d"), ("a", "b")))
        program = turner_of("bcdea")
        self.assertEqual([seating_at(program, Machine((5,)), 0, index) for index in range(5)], [
            (tuple("abcde"),), (tuple("acebd"),), (tuple("adbec"),), (tuple("aedcb"),), None])

    def test_the_last_index_the_one_behind_it_and_the_greatest(self):
        program = turner_of("abcdefg")
        machine = Machine((7,))
        self.assertEqual(seating_at(program, machine, 0, 719), (("a", "g", "f", "e", "d", "c", "b"),))
        self.assertEqual(seating_at(program, machine, 0, 0), (tuple("abcdefg"),))
        for index in (720, 721, 10 ** 29, 10 ** 30 - 1, 10 ** 30):
            self.assertIsNone(seating_at(program, machine, 0, index))
        for index in (10 ** 30 + 1, 10 ** 59, -1, -720):
            self.assertIs(kind_raised(seating_at, program, machine, 0, index), NoNumber)

    def test_kinds(self):
        found = seating_at(turner_of("bacd"), Machine((2, 1, 1)), 0, 0)
        self.assertIs(type(found), tuple)
        self.assertEqual({type(row) for row in found}, {tuple})

    def test_each_is_another_and_begins_with_the_least(self):
        program = turner_of("badcfeg")
        machine = Machine((4, 2, 1))
        many = many_seatings(program, machine, 0)
        found = [seating_at(program, machine, 0, index) for index in range(many)]
        self.assertEqual(found, sorted(found))
        self.assertEqual(len(set(found)), many)
        self.assertTrue(all(row[0] == min(row) for rounds in found for row in rounds))


class Errors(unittest.TestCase):
    def test_other_size_first(self):
        for belts in ((1,), (3,), (1, 1, 1), (2, 1), (8, 4)):
            for thing in [0, 1, *NUMBERS, *odd_things()]:
                self.assertIs(kind_raised(many_seatings, s(), Machine(belts), thing), OtherSize)
                self.assertIs(kind_raised(seating_at, s(), Machine(belts), thing, 0), OtherSize)
                self.assertIs(kind_raised(seating_at, s(), Machine(belts), 0, thing), OtherSize)
                self.assertIs(kind_raised(seating_at, s(), Machine(belts), thing, thing), OtherSize)

    def test_numbers_of_pieces(self):
        for program in (s(), NOWHERE, apart([s(), FORKED])):
            many = len(pieces(program))
            for thing in [many, *NUMBERS, *odd_things()]:
                if type(thing) is not int or not 0 <= thing < many:
                    self.assertIs(kind_raised(many_seatings, program, TWO, thing), NoNumber)
                    for index in (0, -1, None):
                        self.assertIs(kind_raised(seating_at, program, TWO, thing, index), NoNumber)

    def test_indexes(self):
        for thing in [-1, 10 ** 30 + 1, 10 ** 59, True, False, "0", None, (0,), *odd_things()]:
            if type(thing) is not int or not 0 <= thing <= 10 ** 30:
                for machine in (TWO, PLAIN):
                    self.assertIs(kind_raised(seating_at, s(), machine, 0, thing), NoNumber)

    def test_nothing_is_changed(self):
        check_unchanged(self, lambda thing: raised(many_seatings, s(), TWO, thing))
        check_unchanged(self, lambda thing: raised(seating_at, s(), TWO, thing, 0))
        check_unchanged(self, lambda thing: raised(seating_at, s(), TWO, 0, thing))
        for program in PROGRAMS[:30]:
            steps = program.steps
            machine = Machine((slow_need(program),))
            for number in range(len(slow_pieces(program))):
                for call in (lambda one: many_seatings(one, machine, number),
                             lambda one: seating_at(one, machine, number, 0)):
                    self.assertEqual(call(program), call(Program(steps)))
            self.assertEqual(program.steps, steps)

    def test_more_than_forty_places(self):
        program = grown(self, wide(2000))
        self.assertEqual(many_seatings(program, TWO, 0), 1)
        self.assertEqual(seating_at(program, TWO, 0, 0), (("x", "y"),))


if __name__ == "__main__":
    unittest.main()
