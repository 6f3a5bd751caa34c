import random
import unittest

from desking import ERRORS, Model
from fullbelts.desks import Desk
from fullbelts.errors import (
    BadMachine, BadNeed, BadProgram, BadText, Faulty, NoLine, NoName, NoneLed, NoPlace, NothingDone, NoWay, Over)
from fullbelts.makers import code_for
from fullbelts.machines import Machine
from fullbelts.programs import Program
from fullbelts.shapes import shapes
from fullbelts.steppers import Stepper
from fullbelts.texts import machine_text, program_text
from fullbelts.wants import wanted
from making import star
from samples import check_unchanged, faultless_programs, odd_things, outcome, raised, random_programs, s
from straight import straight_programs
from turners import turner_of
from turning import shapes_of_size
from wording import changed_text

S_LINE = "program s " + program_text(s()).replace("\n", "|")
EIGHT = "|".join([f"make {name} {at + 1}" for at, name in enumerate("abcdefgh")]
                 + [f"tell {name} {at + 9}" for at, name in enumerate("abcdefgh")]) + "|end|"


def line_text(text):
    return text.replace("\n", "|")


def look_of(stepper):
    return " ".join([",".join(["-" if item is None else str(item) for item in row]) for row in stepper.holding()])


def desk_stepped(stepper):
    stepper.go(0)
    return stepper


def desk_with(*lines):
    desk = Desk()
    for line in lines:
        desk.tell(line)
    return desk


class Lines(unittest.TestCase):
    def answers(self, desk, *pairs):
        for line, told in pairs:
            found = desk.tell(line)
            self.assertEqual(found, told, line)
            self.assertIs(type(found), str)

    def error(self, desk, told, kind, **fields):
        many = desk.undoable()
        error = raised(desk.tell, told)
        self.assertIs(type(error), kind, told)
        self.assertEqual(vars(error), fields, told)
        self.assertEqual(desk.undoable(), many)

    def test_a_session(self):
        self.answers(
            Desk(), ("names", "none"), (S_LINE, "ok"), ("names", "s"), ("machine two 2|", "ok"), ("machine plain 1 1|", "ok"),
            ("need s", "2"), ("wanted s 0", "none"), ("wanted s 2", "x y"), ("wanted s 7", "y"), ("enough s two", "yes"),
            ("enough s plain", "no"), ("shapes s", "2"), ("code c s plain", "none"), ("code c s two", "ok"),
            ("right c", "yes"), ("begin c", "ok"), ("look", "-,-"), ("go 0", "none"), ("look", "0,-"), ("go 0", "none"),
            ("go 0", "0/0"), ("go 0", "0/0"), ("go 0", "1/1"), ("go 0", "2/2"), ("go 1", "3/3"), ("go 0", "3/3"), ("go 0", "4/4"))

    def test_several_readings_and_belts(self):
        program = Program((("make", "x", (), 1), ("make", "y", ("x", "x"), 2), ("make", "z", ("x", "y"), 3), ("tell", "z", 4),
                           ("end",)))
        for belts in ((1, 3, 1), (2,), (1, 1), (8, 4)):
            machine = Machine(belts)
            desk = desk_with("program p " + line_text(program_text(program)), "machine m " + line_text(machine_text(machine)),
                             "code c p m", "begin c")
            stepper = Stepper(code_for(program, machine))
            for told in ("none", "0/0 0/0", "0/0 1/1", "2/2"):
                self.answers(desk, ("look", look_of(stepper)), ("go 0", told), ("look", look_of(desk_stepped(stepper))))

    def test_names(self):
        desk = Desk()
        for name in ("b", "abcdefgh", "a", "zz", "b"):
            self.answers(desk, (f"program {name} end|", "ok"))
        self.answers(desk, ("machine m 1|", "ok"), ("names", "a abcdefgh b zz"), ("drop a", "ok"), ("drop m", "ok"),
                     ("names", "abcdefgh b zz"))

    def test_shapes(self):
        desk = desk_with("program a " + line_text(program_text(turner_of("bacd"))),
                         "program b " + line_text(program_text(turner_of("bcda", "bacd"))),
                         "program c " + line_text(program_text(turner_of("bcdefga", "bacdefg"))))
        self.answers(desk, ("shapes a", "2,1,1 2,2"), ("shapes b", "none"), ("shapes c", "none"), ("need c", "7"))
        for program in [turner_of("bacd"), turner_of("bca"), *straight_programs(10, 3, 5)]:
            desk.tell("program p " + line_text(program_text(program)))
            told = " ".join([",".join(map(str, shape)) for shape in shapes(program)]) or "none"
            self.answers(desk, ("shapes p", told))

    def test_wanted(self):
        for program in faultless_programs(30):
            desk = desk_with("program p " + line_text(program_text(program)))
            for place, names in enumerate(wanted(program)):
                self.answers(desk, (f"wanted p {place}", " ".join(names) or "none"))
            for place in (len(program.steps), 40, 999999999):
                self.error(desk, f"wanted p {place}", NoPlace)

    def test_no_line(self):
        desk = desk_with(S_LINE, "machine two 2|", "code c s two", "begin c")
        for line in ("", " ", "x", "names ", " names", "names x", "Names", "look ", "look look", "undo 1", "undo ", "need",
                     "need ", "need  s", "need s ", "need S", "need s s", "need s\t", "need\ts", "need abcdefghi", "need 1",
                     "wanted s", "wanted s ", "wanted s x", "wanted s 01", "wanted s -1", "wanted s +1", "wanted s 1 1",
                     "wanted  s 1", "wanted s  1", "wanted 1 s", "wanted s 1234567890", "enough s", "enough s two two",
                     "enough s 2", "enough  s two", "shapes", "shapes s two", "right", "right c c", "right C", "begin",
                     "begin c 0", "go", "go ", "go x", "go 00", "go 0 0", "go -0", "go 1234567890", "go  0", "code c s",
                     "code c s two two", "code c s 2", "code  c s two", "code c1 s two", "drop", "drop c c", "drop 1",
                     "program", "program ", "program p", "program p ", "program  p end|", "program P end|", "program 1 end|",
                     "program abcdefghi end|", "program\tp end|", "machine", "machine m", "machine m ", "machine  m 2|",
                     "machine M 2|", "look\n", "names\nnames", "program p end\n", "program p end|\n", "need s\n", "\n", "|",
                     "undo\n", "go 0|", "need s|", "drop c|", "quit", "program p\tend|", "machine m\t2|"):
            self.error(desk, line, NoLine)
        for thing in odd_things():
            if type(thing) is not str:
                self.error(desk, thing, NoLine)
        check_unchanged(self, lambda thing: raised(desk.tell, thing))
        self.answers(desk, ("look", "-,-"), ("names", "s"))

    def test_texts(self):
        desk = Desk()
        for text, line in ((" end|", 1), ("end", 1), ("|", 1), ("end| ", 2), ("end|end", 2), ("end|\t|", 2), ("x", 1), (" ", 1),
                           ("go 0|go 00|", 2), ("end||", 2), ("end |", 1), ("\t", 1), ("  ", 1), ("end| |end|", 2)):
            self.error(desk, "program p " + text, BadText, line=line)
        for text, line in ((" 2|", 1), ("2", 1), ("|", 1), ("2|2|", 2), ("2 |", 1), ("x|", 1), ("2| ", 2), ("\t", 1), ("2\t1|", 1)):
            self.error(desk, "machine m " + text, BadText, line=line)
        self.error(desk, "program p go 1|", BadProgram, part=0)
        self.error(desk, "program p " + "end|" * 41, BadProgram, part="steps")
        self.error(desk, "program p " + "".join([f"make {name} 0|" for name in "abcdefghijklm"]), BadProgram, part="names")
        self.error(desk, "machine m 9|", BadMachine)
        self.error(desk, "machine m 8 5|", BadMachine)
        self.error(desk, "program p tell x 1|end|", Faulty, place=0, name="x")
        self.error(desk, "program p test x 1 2|make x 2|make x y z 3|end|", Faulty, place=0, name="x")
        self.error(desk, "program p make x z y 1|end|", Faulty, place=0, name="y")
        self.error(desk, "program p make x 1|test x 0 2|tell y 3|end|", Faulty, place=2, name="y")
        self.answers(desk, ("program p end|tell x 0|", "ok"), ("names", "p"))

    def test_no_name(self):
        desk = desk_with(S_LINE, "machine two 2|", "code c s two")
        for line, name in (("need p", "p"), ("wanted p 99", "p"), ("enough p two", "p"), ("enough p q", "p"), ("enough s q", "q"),
                           ("enough two s", "two"), ("shapes two", "two"), ("right s", "s"), ("begin two", "two"),
                           ("code n p q", "p"), ("code n s q", "q"), ("code n two two", "two"), ("code n s s", "s"),
                           ("drop p", "p"), ("code c c two", "c"), ("need c", "c")):
            self.error(desk, line, NoName, name=name)

    def test_none_led(self):
        desk = desk_with(S_LINE, "machine two 2|", "code c s two")
        for line in ("go 0", "go 9", "look"):
            self.error(desk, line, NoneLed)
            self.error(Desk(), line, NoneLed)
        desk.tell("begin c")
        self.answers(desk, ("look", "-,-"), ("undo", "ok"))
        self.error(desk, "look", NoneLed)

    def test_needs(self):
        desk = desk_with("program none end|", "program eight " + EIGHT, "machine m 8|", "machine large 8 4|",
                         "program seven make x 1|end|")
        for name in ("none", "eight"):
            for line in (f"shapes {name}", f"enough {name} m", f"code c {name} m", f"enough {name} large",
                         f"code c {name} large"):
                self.error(desk, line, BadNeed)
            self.error(desk, f"enough {name} x", NoName, name="x")
            self.error(desk, f"code c {name} x", NoName, name="x")
        self.answers(desk, ("need none", "0"), ("need eight", "8"), ("wanted eight 8", "a b c d e f g h"),
                     ("wanted none 0", "none"), ("need seven", "1"), ("shapes seven", "1"))

    def test_ends_and_ways(self):
        desk = desk_with("program p make x 1|test x 1 2|end|", "machine m 1|", "code c p m", "begin c")
        for line in ("go 1", "go 2", "go 999999999"):
            self.error(desk, line, NoWay)
        self.answers(desk, ("go 0", "none"))
        for line in ("go 2", "go 3"):
            self.error(desk, line, NoWay)
        self.answers(desk, ("go 0", "0/0"), ("go 1", "0/0"))
        for line in ("go 0", "go 1", "go 999999999"):
            self.error(desk, line, Over)
        self.answers(desk, ("undo", "ok"), ("go 1", "0/0"))

    def test_codes_stay(self):
        desk = desk_with(S_LINE, "machine two 2|", "code c s two", "begin c", "go 0", "go 0", "drop s", "drop two")
        self.answers(desk, ("names", "none"), ("right c", "yes"), ("go 0", "0/0"))
        held = desk.tell("look")
        self.answers(desk, ("begin c", "ok"), ("look", "-,-"), ("undo", "ok"), ("drop c", "ok"), ("look", held), ("go 0", "0/0"))
        self.error(desk, "right c", NoName, name="c")
        self.answers(desk, ("undo", "ok"), ("undo", "ok"), ("right c", "yes"), ("look", held))

    def test_one_name_for_three(self):
        desk = desk_with("program a make x 1|tell x 2|end|", "machine a 1|", "code a a a")
        self.answers(desk, ("right a", "yes"), ("enough a a", "yes"), ("drop a", "ok"), ("names", "none"))
        for line in ("right a", "enough a a", "drop a", "begin a"):
            self.error(desk, line, NoName, name="a")
        self.answers(desk, ("undo", "ok"), ("right a", "yes"), ("enough a a", "yes"))
        self.assertEqual(desk.undoable(), 3)

    def test_elder_ones(self):
        desk = desk_with("program p make x 1|tell x 2|end|", "machine m 1|", "code c p m", "begin c", "go 0", S_LINE[:8] + "p"
                         + S_LINE[9:], "machine m 2 1|")
        self.answers(desk, ("need p", "2"), ("code c p m", "ok"), ("look", "0"), ("go 0", "0/0"), ("begin c", "ok"),
                     ("look", "-,- -"))
        self.answers(desk, *[("undo", "ok")] * 5, ("need p", "1"), ("enough p m", "yes"), ("look", "0"))

    def test_a_code_line_that_tells_none(self):
        desk = desk_with(S_LINE, "machine two 2|", "machine plain 1 1|", "code c s two")
        self.answers(desk, ("code c s plain", "none"), ("right c", "yes"), ("code d s plain", "none"))
        self.assertEqual(desk.undoable(), 4)
        self.error(desk, "right d", NoName, name="d")
        self.answers(desk, ("undo", "ok"))
        self.error(desk, "right c", NoName, name="c")

    def test_begin_behind_begin(self):
        desk = desk_with(S_LINE, "machine two 2|", "machine three 1 2|", "code c s two", "code d s three", "begin c", "go 0",
                         "go 0")
        first = desk.tell("look")
        self.answers(desk, ("begin d", "ok"), ("look", "- -,-"), ("go 0", "none"))
        second = desk.tell("look")
        self.assertIn("0", second)
        self.answers(desk, ("begin c", "ok"), ("look", "-,-"), ("undo", "ok"), ("look", second), ("undo", "ok"), ("look", "- -,-"),
                     ("undo", "ok"), ("look", first), ("go 0", "0/0"), ("undo", "ok"), ("look", first), ("undo", "ok"),
                     ("look", "0,-"), ("undo", "ok"), ("look", "-,-"), ("undo", "ok"))
        self.error(desk, "look", NoneLed)

    def test_nothing_done(self):
        desk = Desk()
        self.error(desk, "undo", NothingDone)
        self.assertEqual(desk.undoable(), 0)
        self.assertIs(type(desk.undoable()), int)
        self.answers(desk, ("names", "none"))
        self.error(desk, "undo", NothingDone)
        self.answers(desk, (S_LINE, "ok"), ("need s", "2"), ("undo", "ok"))
        self.error(desk, "undo", NothingDone)
        self.error(desk, "need s", NoName, name="s")

    def test_what_can_be_taken_back(self):
        desk, many = Desk(), 0
        for line, more in ((S_LINE, 1), ("machine m 2|", 1), ("names", 0), ("need s", 0), ("wanted s 1", 0), ("enough s m", 0),
                           ("shapes s", 0), ("code c s m", 1), ("right c", 0), ("begin c", 1), ("go 0", 1), ("look", 0),
                           ("drop s", 1), ("undo", -1), ("undo", -1), ("undo", -1), ("undo", -1), ("undo", -1), ("undo", -1)):
            desk.tell(line)
            many += more
            self.assertEqual(desk.undoable(), many)

    def test_desks_are_apart(self):
        one, other = Desk(), Desk()
        one.tell(S_LINE)
        self.assertEqual(other.tell("names"), "none")
        self.assertEqual((one.undoable(), other.undoable()), (1, 0))


PROGRAM_TEXTS = [line_text(program_text(program)) for program in [
    s(), star(["ba"]), *straight_programs(4, 7, 4), *faultless_programs(12)[2:], *random_programs(4)]] + [EIGHT, "end|", "go 1|", "end|" * 41]
MACHINE_TEXTS = [line_text(machine_text(Machine(belts))) for size in (1, 2, 3, 4) for belts in shapes_of_size(size)] + ["9|", "x|"]
NAMES = ("a", "b")


def random_line(rng):
    word = rng.choice((
        "program", "program", "machine", "machine", "code", "code", "code", "begin", "begin", "go", "go", "go", "go", "go", "look",
        "look", "undo", "undo", "drop", "names", "need", "wanted", "enough", "enough", "enough", "shapes", "right"))
    parts = {
        "program": lambda: (rng.choice(NAMES), rng.choice(PROGRAM_TEXTS)),
        "machine": lambda: (rng.choice(NAMES), rng.choice(MACHINE_TEXTS)),
        "code": lambda: rng.choices(NAMES, k=3), "enough": lambda: rng.choices(NAMES, k=2),
        "wanted": lambda: (rng.choice(NAMES), str(rng.randrange(9))), "go": lambda: (rng.choice("0000112"),),
        "look": lambda: (), "undo": lambda: (), "names": lambda: ()}.get(word, lambda: (rng.choice(NAMES),))()
    line = " ".join([word, *parts])
    return changed_text(rng, line) if rng.randrange(12) == 0 else line


class Sessions(unittest.TestCase):
    def test_against_the_lines_gone_anew(self):
        told = {"ok": 0, "none": 0, "yes": 0, "no": 0}
        errors = {kind: 0 for kind in ERRORS}
        for seed in range(150):
            rng, desk, model = random.Random(seed), Desk(), Model()
            for _ in range(150):
                line = random_line(rng)
                found = outcome(desk.tell, line)
                self.assertEqual(found, model.tell(line), (seed, line, model.lines))
                self.assertEqual(desk.undoable(), model.undoable())
                if type(found) is tuple:
                    errors[found[0]] += 1
                elif found in told:
                    told[found] += 1
            while model.undoable():
                self.assertEqual(desk.tell("undo"), model.tell("undo"))
                for line in ("names", "look", "right a", "need a", "enough a b"):
                    self.assertEqual(outcome(desk.tell, line), model.tell(line))
            self.assertEqual(desk.undoable(), 0)
        self.assertGreater(min(told.values()), 8, told)
        self.assertGreater(min(errors.values()), 5, errors)


if __name__ == "__main__":
    unittest.main()
