import random
import unittest

from fullbelts.codes import Code
from fullbelts.errors import BadCode, BadMachine, BadProgram, BadText
from fullbelts.machines import Machine
from fullbelts.programs import Program
from fullbelts.reading import read_code, read_machine, read_program
from fullbelts.texts import code_text, machine_text, program_text
from reckoning import many_codes
from samples import (
    S_STEPS, c, check_unchanged, forms, grown, odd_things, outcome, raised, random_programs, s)
from test_texts import C_TEXT, FORMS_TEXT, S_TEXT
from wording import (
    bad_code_line, bad_machine_line, bad_program_line, changed_text, told_code, told_lengths, told_steps)

TWO = Machine((2,))


class Reading(unittest.TestCase):
    def bad_text(self, line, call, *arguments):
        error = raised(call, *arguments)
        self.assertIs(type(error), BadText, arguments)
        self.assertEqual(error.line, line, arguments)
        self.assertIs(type(error.line), int)

    def bad_part(self, kind, part, call, *arguments):
        error = raised(call, *arguments)
        self.assertIs(type(error), kind, arguments)
        self.assertEqual(error.part, part, arguments)


class Programs(Reading):
    def test_samples(self):
        self.assertTrue(read_program(S_TEXT) == s())
        self.assertTrue(read_program(FORMS_TEXT) == forms())
        self.assertEqual(read_program("end\n").steps, (("end",),))
        self.assertEqual(read_program("make make make tell 1\ntell end 2\ngo 0\n").steps, (
            ("make", "make", ("make", "tell"), 1), ("tell", "end", 2), ("go", 0)))

    def test_lines_that_are_none_of_the_forms(self):
        for line in ("", " ", "end ", " end", "end 1", "end  ", "ends", "End", "END", "en", "go", "go ", "go  1", "go x",
                     "go +1", "go -1", "go -0", "go 01", "go 00", "go 1 ", "go 1 2", "go 1.0", "go 1234567890",
                     "go 0000000001", "go 1_0", "go 0x1", "go\t1", "go 1\t", "\tgo 1", "Go 1", "tell x", "tell 1", "tell x y",
                     "tell x 01", "tell x 1 2", "tell X 1", "tell x1 1", "tell abcdefghi 1", "tell  x 1", "tell x  1",
                     "tell  1", "test x 1", "test x", "test x 1 2 3 4", "test x 1 y", "test x 1  2", "test 1 2 3",
                     "test x 1 02", "test x x 1 2", "test  1 2", "make x", "make 1", "make x y", "make x y z w 1",
                     "make x y z 1 2", "make x 1 y", "make x Y 1", "make x  1", "make x y  1", "make  x 1",
                     "make abcdefghi 1", "make x abcdefghi 1", "make x y 1 ", "make x -1", "make x y- 1", "make x 1|",
                     "make x, y 1", "jump 1", "x", "1", "make x y z 12345678901", "end|", "#", "make x () 1"):
            text = "end\ngo 0\n" + line + "\nend\n"
            self.assertEqual(bad_program_line(text), 3)
            self.bad_text(3, read_program, text)
            self.bad_text(1, read_program, line + "\n")
            # The first bad line counts, also ahead of what the program would be.
            self.bad_text(3, read_program, text + "ex\n" + text)
            self.bad_text(42, read_program, "go 99\n" * 41 + line + "\n")

    def test_what_stands_behind_the_last_line_feed(self):
        for text, line in (("", 1), ("end", 1), ("end\nend", 2), ("end\n ", 2), ("go 0\ngo 0\nx", 3), ("\n", 1), ("end\n\n", 2),
                           (" ", 1), ("x\nend", 1), ("end\nx\nend", 2), ("end\n\t", 2), ("end\n\nend", 2)):
            self.assertEqual(bad_program_line(text), line)
            self.bad_text(line, read_program, text)

    def test_bad_programs(self):
        self.bad_part(BadProgram, "steps", read_program, "end\n" * 41)
        self.bad_part(BadProgram, "steps", read_program, "go 99\n" * 41)
        self.bad_part(BadProgram, 0, read_program, "go 1\n")
        self.bad_part(BadProgram, 1, read_program, "end\ngo 999999999\n")
        self.bad_part(BadProgram, 2, read_program, "go 2\nmake x 1\ntest x 2 4\ngo 4\n")
        names = "".join([f"make {name} 0\n" for name in "abcdefghijklm"])
        self.bad_part(BadProgram, "names", read_program, names)
        self.bad_part(BadProgram, 13, read_program, names + "go 14\n")
        self.assertEqual(len(read_program(names[:-9]).steps), 12)
        self.assertEqual(len(read_program("end\n" * 40).steps), 40)

    def test_programs_with_faults_are_read(self):
        self.assertEqual(read_program("tell x 1\nend\n").steps, (("tell", "x", 1), ("end",)))

    def test_numbers_of_nine_digits_are_numbers(self):
        self.bad_part(BadProgram, 0, read_program, "go 123456789\n")
        self.bad_text(1, read_program, "go 1234567890\n")
        self.assertEqual(read_program("go 0\n").steps, (("go", 0),))

    def test_many(self):
        rng = random.Random(1)
        told = {BadText: 0, BadProgram: 0, Program: 0}
        for program in random_programs(500) + [s(), forms()] * 100:
            text = changed_text(rng, program_text(program))
            line = bad_program_line(text)
            if line is not None:
                self.bad_text(line, read_program, text)
                told[BadText] += 1
            else:
                found, expected = outcome(read_program, text), outcome(Program, told_steps(text))
                self.assertTrue(found == expected)
                told[type(found) if type(found) is Program else found[0]] += 1
        self.assertGreater(min(told.values()), 30)

    def test_any_thing(self):
        for thing in odd_things():
            if type(thing) is str:
                self.bad_text(bad_program_line(thing), read_program, thing)
            else:
                self.bad_text(0, read_program, thing)
        check_unchanged(self, lambda thing: raised(read_program, thing))


class Machines(Reading):
    def test_samples(self):
        self.assertEqual(read_machine("2 1 3\n").belts, (2, 1, 3))
        self.assertEqual(read_machine("8\n").belts, (8,))

    def test_bad_texts(self):
        for text, line in (
                ("", 1), ("2", 1), ("\n", 1), (" \n", 1), ("2 \n", 1), (" 2\n", 1), ("2  1\n", 1), ("2\n\n", 2), ("2\n1\n", 2),
                ("2\nx", 2), ("2\n1", 2), ("2\n ", 2), ("x\n", 1), ("x\n1\n", 1), ("\n\n", 1), ("2 x\n", 1), ("02\n", 1), ("+2\n", 1),
                ("-2\n", 1), ("2,1\n", 1), ("2\t1\n", 1), ("1234567890\n", 1), ("2 1", 1), ("2\n1\n1\n", 2), ("2\nx\n\n", 2),
                ("x", 1), ("(2, 1)\n", 1), ("2.0\n", 1), ("two\n", 1), ("00\n", 1), ("9 9\n2\n", 2)):
            self.assertEqual(bad_machine_line(text), line)
            self.bad_text(line, read_machine, text)

    def test_bad_machines(self):
        for text in ("0\n", "9\n", "1 0\n", "8 5\n", "1 1 1 1 1 1 1\n", "123456789\n", "7 6\n", "3 2 2 2 2 2\n"):
            self.assertIsNone(bad_machine_line(text))
            self.assertIs(type(raised(read_machine, text)), BadMachine)

    def test_many(self):
        rng = random.Random(2)
        told = {BadText: 0, BadMachine: 0, Machine: 0}
        for _ in range(600):
            belts = tuple([rng.choice((1, 1, 2, 3, 4, 8)) for _ in range(rng.randint(1, 6))])
            text = " ".join(map(str, belts)) + "\n"
            text = changed_text(rng, text) if rng.randrange(3) else text
            line = bad_machine_line(text)
            if line is not None:
                self.bad_text(line, read_machine, text)
                told[BadText] += 1
            else:
                found, expected = outcome(read_machine, text), outcome(Machine, told_lengths(text))
                self.assertTrue(found == expected)
                told[Machine if type(found) is Machine else found[0]] += 1
        self.assertGreater(min(told.values()), 30)
        self.assertEqual(machine_text(read_machine("1 1 2\n")), "1 1 2\n")

    def test_any_thing(self):
        for thing in odd_things():
            if type(thing) is str:
                self.bad_text(bad_machine_line(thing), read_machine, thing)
            else:
                self.bad_text(0, read_machine, thing)
        check_unchanged(self, lambda thing: raised(read_machine, thing))


class Codes(Reading):
    def test_samples(self):
        self.assertTrue(read_code(s(), TWO, C_TEXT) == c())
        code = read_code(s(), TWO, C_TEXT + "2/0 0.1>0\n2/1 0.0>0 0.1>0\n")
        self.assertEqual(code.carries, {(2, 0): (((0, 1), 0),), (2, 1): (((0, 0), 0), ((0, 1), 0))})
        program = Program((("go", 0),))
        self.assertTrue(read_code(program, TWO, "") == Code(program, TWO, {}, {}, {}))

    def test_lines_that_are_none_of_the_forms(self):
        for line in ("", " ", "7", "7 ", "7 0", "7 0.0 ", " 7 0.0", "7  0.0", "7 0.0  0.0", "7 00.0", "7 0.00", "7 0.", "7 .0",
                     "7 0.0.0", "7 0,0", "7 -0.0", "7 +0.0", "07 0.0", "+7 0.0", "-7 0.0", "7 >", "7 > ", "7 >0", "7> 0",
                     "7 0.0 >", "7 0.0 >0", "7 0.0> 0", "7 0.0 > x", "7 0.0 > 00", "7 0.0 > 0 0.0", "7 > 0 > 0", "7 > 0 0.0",
                     "7 0.0>0", "7 0.0 > -1", "7 0.0 > 1234567890", "1234567890 0.0", "7 1234567890.0", "7 0.1234567890",
                     "x 0.0", "7 x", "7 a.b", "7\t0.0", "7 0.0\t", "7/0", "7/0 ", "7/0 0.0", "7/0 0.0 > 0", "7/0 0.0>",
                     "7/0 >0", "7/0 0.0>0 ", "7/0  0.0>0", "7/0 0.0>0  0.0>0", "7/0 0.0>0 > 0", "7/00 0.0>0", "07/0 0.0>0",
                     "7/ 0.0>0", "/0 0.0>0", "7/0/0 0.0>0", "7 /0 0.0>0", "7/x 0.0>0", "7/0 0>0", "7/0 0.0>0.0",
                     "7/0 0.0>>0", "7/0 0.0>00", "7/0 0.0.0>0", "7/1234567890 0.0>0", "7/0 0.0>1234567890", "7/0 > 0",
                     "7|0.0", "end", "7: 0.0", "7 (0, 0)"):
            text = "0 > 0\n" + line + "\n"
            self.assertEqual(bad_code_line(text), 2, line)
            self.bad_text(2, read_code, s(), TWO, text)
            self.bad_text(9, read_code, s(), TWO, C_TEXT.replace("7 0.0\n", "7 0.0\n" + line + "\n"))
            self.bad_text(1, read_code, s(), TWO, line + "\n" + C_TEXT)

    def test_the_order_of_the_lines(self):
        for text, line in (
                ("1 > 0\n0 > 0\n", 2), ("0 > 0\n0 > 0\n", 2), ("0 > 0\n0 0.0\n", 2), ("2/0 0.0>0\n2/0 0.0>0\n", 2),
                ("2/1 0.0>0\n2/0 0.0>0\n", 2), ("3/0 0.0>0\n2/1 0.0>0\n", 2), ("2/0 0.0>0\n7 0.0\n", 2),
                ("0 > 0\n2/0 0.0>0\n3 0.0\n", 3), ("9 0.0\n10 0.0\n2 0.0\n", 3), ("0/0 0.0>0\n0 > 0\n", 2)):
            self.assertEqual(bad_code_line(text), line)
            self.bad_text(line, read_code, s(), TWO, text)
        for text in ("9 0.0\n10 0.0\n", "9/0 0.0>0\n10/0 0.0>0\n", "9 0.0\n2/9 0.0>0\n2/10 0.0>0\n3/0 0.0>0\n"):
            self.assertIsNone(bad_code_line(text))
            self.assertIs(type(raised(read_code, s(), TWO, text)), BadCode)

    def test_what_stands_behind_the_last_line_feed(self):
        self.bad_text(9, read_code, s(), TWO, C_TEXT + "2/0 0.1>0")
        self.bad_text(9, read_code, s(), TWO, C_TEXT + " ")
        self.bad_text(8, read_code, s(), TWO, C_TEXT[:-1])
        self.bad_text(1, read_code, s(), TWO, "0 > 0")
        self.bad_text(1, read_code, s(), TWO, "x")
        self.bad_text(1, read_code, s(), TWO, "\n")
        self.bad_text(9, read_code, s(), TWO, C_TEXT + "\n")
        self.bad_text(1, read_code, s(), TWO, "\n" + C_TEXT)

    def test_bad_codes(self):
        for old, new, part in (
                ("7 0.0\n", "", "rooms"), ("7 0.0\n", "7 0.0 0.0\n", "rooms"), ("7 0.0\n", "7 1.0\n", "rooms"),
                ("7 0.0\n", "7 0.2\n", "rooms"), ("7 0.0\n", "7 0.0\n8 0.0\n", "rooms"), ("7 0.0\n", "7 0.0\n9 0.0\n", "rooms"),
                ("7 0.0\n", "7 0.0\n999999999 0.0\n", "rooms"), ("3 0.1 > 0\n", "3 > 0\n", "rooms"),
                ("0 > 0\n", "0 0.0 > 0\n", "rooms"), ("7 0.0\n", "7 0.0 > 0\n", "belts"), ("0 > 0\n", "", "belts"),
                ("3 0.1 > 0\n", "3 0.1\n", "belts"), ("0 > 0\n", "0 > 1\n", "belts"), ("7 0.0\n", "7 0.0\n8 > 0\n", "belts"),
                ("7 0.0\n", "7 0.0\n9 > 0\n", "belts"), ("7 0.0\n", "7 0.0\n8/0 0.0>0\n", "carries"),
                ("7 0.0\n", "7 0.0\n9/0 0.0>0\n", "carries"), ("7 0.0\n", "7 0.0\n0/1 0.0>0\n", "carries"),
                ("7 0.0\n", "7 0.0\n2/2 0.0>0\n", "carries"), ("7 0.0\n", "7 0.0\n0/0 0.0>1\n", "carries"),
                ("7 0.0\n", "7 0.0\n0/0 0.2>0\n", "carries"), ("7 0.0\n", "7 0.0\n0/0 1.0>0\n", "carries"),
                ("7 0.0\n", "7 0.0\n0/0" + " 0.0>0" * 1001 + "\n", "carries"),
                ("0 > 0\n1 > 0\n", "1 > 1\n", "belts")):
            self.bad_part(BadCode, part, read_code, s(), TWO, C_TEXT.replace(old, new))
        self.bad_part(BadCode, "rooms", read_code, s(), TWO, "")
        # The first of the parts counts, and a bad line ahead of all.
        self.bad_part(BadCode, "rooms", read_code, s(), TWO, "0 > 9\n0/0 9.9>9\n")
        self.bad_part(BadCode, "belts", read_code, s(), TWO, C_TEXT.replace("0 > 0\n", "0 > 9\n") + "0/0 9.9>9\n")
        self.bad_text(10, read_code, s(), TWO, C_TEXT.replace("0 > 0\n", "0 > 9\n") + "0/0 9.9>9\nx\n")
        long = read_code(s(), TWO, C_TEXT + "0/0" + " 0.0>0" * 1000 + "\n")
        self.assertEqual(len(long.carries[(0, 0)]), 1000)

    def test_many(self):
        rng = random.Random(3)
        told = {BadText: 0, BadCode: 0, Code: 0}
        for code in many_codes(250) + [c()] * 100:
            text = changed_text(rng, code_text(code))
            line = bad_code_line(text)
            if line is not None:
                self.bad_text(line, read_code, code.program, code.machine, text)
                told[BadText] += 1
            else:
                found = outcome(read_code, code.program, code.machine, text)
                self.assertTrue(found == outcome(Code, code.program, code.machine, *told_code(text)))
                told[Code if type(found) is Code else found[0]] += 1
        self.assertGreater(min(told.values()), 30)

    def test_more_than_forty_places(self):
        program = grown(self, (("make", "x", (), 1),) + tuple([("tell", "x", place + 1) for place in range(1, 200)])
                        + (("end",),))
        code = Code(program, TWO, {place: ((0, 0),) for place in range(1, 200)}, {0: 0}, {})
        self.assertTrue(read_code(program, TWO, code_text(code)) == code)
        self.bad_part(BadProgram, "steps", read_program, program_text(program))

    def test_any_thing(self):
        for thing in odd_things():
            if type(thing) is not str:
                self.bad_text(0, read_code, s(), TWO, thing)
            elif bad_code_line(thing) is not None:
                self.bad_text(bad_code_line(thing), read_code, s(), TWO, thing)
            else:
                self.bad_part(BadCode, "rooms", read_code, s(), TWO, thing)
        check_unchanged(self, lambda thing: raised(read_code, s(), TWO, thing))

    def test_equal_calls(self):
        self.assertTrue(read_code(s(), TWO, C_TEXT) == read_code(Program(S_STEPS), Machine((2,)), C_TEXT))
        self.assertTrue(read_program(S_TEXT) == read_program(S_TEXT))


if __name__ == "__main__":
    unittest.main()
