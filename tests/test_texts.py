import random
import unittest

from fullbelts.codes import Code
from fullbelts.machines import Machine
from fullbelts.makers import code_for, spare_code
from fullbelts.programs import Program
from fullbelts.reading import read_code, read_machine, read_program
from fullbelts.texts import code_text, machine_text, program_text
from fullbelts.unrolling import unrolled
from making import cut_off, star
from reckoning import many_codes
from samples import c, faultless_programs, forms, random_programs, s
from turners import changed_turners, random_turners, turner_of
from turning import shapes_of_size, slow_need
from wording import bad_code_line, bad_machine_line, bad_program_line, told_code, told_lengths, told_steps

S_TEXT = """make x 1
make y 2
test x 3 6
make t x 4
make x y 5
make y t 2
tell x 7
tell y 8
end
"""
FORMS_TEXT = """make a 1
make bbbbbbbb a a 2
test a 3 3 5
go 4
tell bbbbbbbb 2
end
make a a 6
test a 6 0
"""
C_TEXT = """0 > 0
1 > 0
2 0.1
3 0.1 > 0
4 0.1 > 0
5 0.1 > 0
6 0.1
7 0.0
"""


class Texts(unittest.TestCase):
    def test_programs(self):
        self.assertEqual(program_text(s()), S_TEXT)
        self.assertEqual(program_text(forms()), FORMS_TEXT)
        self.assertEqual(program_text(Program((("end",),))), "end\n")
        self.assertEqual(program_text(Program((("tell", "abcdefgh", 1), ("go", 0)))), "tell abcdefgh 1\ngo 0\n")
        self.assertEqual(program_text(Program((("go", 0),) * 9 + (("test", "q", (9, 10, 0)), ("end",)))),
                         "go 0\n" * 9 + "test q 9 10 0\nend\n")

    def test_machines(self):
        for belts, text in (((1,), "1\n"), ((8, 4), "8 4\n"), ((1, 2, 3), "1 2 3\n"), ((2,) * 6, "2 2 2 2 2 2\n")):
            self.assertEqual(machine_text(Machine(belts)), text)

    def test_codes(self):
        self.assertEqual(code_text(c()), C_TEXT)
        program = Program((("make", "x", (), 1), ("make", "y", ("x", "x"), 2), ("test", "y", (1, 2, 3)),
                           ("make", "y", ("y", "x"), 4), ("end",)))
        code = Code(program, Machine((2, 1)), {1: ((0, 0), (1, 0)), 3: ((1, 0), (0, 1)), 2: ((0, 1),)},
                    {3: 1, 0: 0, 1: 1}, {(2, 1): (((0, 1), 1), ((1, 0), 0)), (0, 0): (((0, 0), 1),), (2, 0): ()})
        self.assertEqual(code_text(code), "0 > 0\n1 0.0 1.0 > 1\n2 0.1\n3 1.0 0.1 > 1\n0/0 0.0>1\n2/1 0.1>1 1.0>0\n")

    def test_a_code_without_lines(self):
        program = Program((("go", 1), ("end",)))
        self.assertEqual(code_text(Code(program, Machine((2,)), {}, {}, {})), "")
        self.assertEqual(code_text(Code(program, Machine((2,)), {}, {}, {(0, 0): (((0, 1), 0),)})), "0/0 0.1>0\n")

    def test_places_and_ways_ascend_as_numbers(self):
        steps = tuple([("make", "x", (), place + 1) for place in range(12)]) + (("tell", "x", 13), ("end",))
        carries = {(place, 0): (((0, 0), 0),) for place in (10, 2, 9, 11, 1)}
        code = Code(Program(steps), Machine((1,)), {12: ((0, 0),)}, {place: 0 for place in reversed(range(12))}, carries)
        lines = code_text(code).split("\n")
        self.assertEqual([line.split(" ")[0] for line in lines[:13]], [str(place) for place in range(13)])
        self.assertEqual(lines[13:], [f"{place}/0 0.0>0" for place in (1, 2, 9, 10, 11)] + [""])


class ThereAndBack(unittest.TestCase):
    def test_programs(self):
        for program in random_programs(200) + faultless_programs(80) + list(random_turners(5, 20, 23)):
            text = program_text(program)
            self.assertIsNone(bad_program_line(text))
            self.assertEqual(told_steps(text), program.steps)
            self.assertTrue(read_program(text) == program)

    def test_machines(self):
        for belts in [belts for size in range(1, 13) for belts in shapes_of_size(size)]:
            text = machine_text(Machine(belts))
            self.assertIsNone(bad_machine_line(text))
            self.assertEqual(told_lengths(text), belts)
            self.assertTrue(read_machine(text) == Machine(belts))

    def test_codes(self):
        codes = many_codes(200)
        for program in [*changed_turners(120, 21)[:20], turner_of("bcdefga")]:
            codes.append(code_for(program, Machine((slow_need(program),))) or spare_code(program, (8, 1)))
        codes.append(spare_code(cut_off(s(), (("make", "x", ("q",), 0), ("end",))), (4, 4)))
        for code in codes:
            text = code_text(code)
            self.assertIsNone(bad_code_line(text))
            self.assertEqual(told_code(text), (code.rooms, code.belts, code.carries))
            self.assertTrue(read_code(code.program, code.machine, text) == code)

    def test_codes_of_more_than_forty_places(self):
        other, _, code = unrolled(star(["bcda", "bacd"]), Machine((1, 1, 1, 1)))
        self.assertGreater(len(other.steps), 40)
        self.assertEqual(told_steps(program_text(other)), other.steps)
        self.assertTrue(read_code(other, code.machine, code_text(code)) == code)

    def test_random_order_of_keys(self):
        rng = random.Random(1)
        for code in many_codes(30):
            parts = []
            for part in (code.rooms, code.belts, code.carries):
                keys = list(part)
                rng.shuffle(keys)
                parts.append({key: part[key] for key in keys})
            self.assertEqual(code_text(Code(code.program, code.machine, *parts)), code_text(code))

    def test_forty_places(self):
        program = Program((("go", 39),) * 40)
        self.assertEqual(program_text(program), "go 39\n" * 40)
        self.assertTrue(read_program(program_text(program)) == program)


if __name__ == "__main__":
    unittest.main()
