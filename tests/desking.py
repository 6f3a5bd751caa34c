"""What the desk shall answer: a model that keeps no state but the lines that are not taken back, and goes them anew."""

import re

from fullbelts.errors import (
    BadMachine, BadNeed, BadProgram, BadText, Faulty, NoLine, NoName, NoPlace, NoneLed, NothingDone, NoWay, Over)
from fullbelts.machines import Machine
from fullbelts.makers import code_for
from fullbelts.programs import Program
from fullbelts.shapes import shapes
from fullbelts.steppers import Stepper
from fullbelts.tables import table
from fullbelts.verdicts import enough
from fullbelts.wants import need, wanted
from samples import all_faults, outcome
from wording import NAME, NUMBER, bad_machine_line, bad_program_line, told_lengths, told_steps

FORMS = {
    "program": f"({NAME}) (.+)", "machine": f"({NAME}) (.+)", "code": f"({NAME}) ({NAME}) ({NAME})",
    "drop": f"({NAME})", "names": "", "need": f"({NAME})", "wanted": f"({NAME}) ({NUMBER})",
    "enough": f"({NAME}) ({NAME})", "shapes": f"({NAME})", "right": f"({NAME})", "begin": f"({NAME})",
    "go": f"({NUMBER})", "look": "", "undo": ""}
PATTERNS = {word: re.compile(word + (" " + rest if rest else "")) for word, rest in FORMS.items()}
CODES = {}


def made_code(program, machine):
    key = (program.steps, machine.belts)
    if key not in CODES:
        CODES[key] = code_for(program, machine)
    return CODES[key]


def words_or_none(words):
    return " ".join(words) or "none"


def item_word(item):
    return "-" if item is None else str(item)


class Model:
    def __init__(self):
        self.lines = []

    def tell(self, line):
        """The answer, or the class and the fields of the error."""
        return outcome(self.told, line)

    def undoable(self):
        return len(self.lines)

    def parsed(self, line):
        if type(line) is not str or "\n" in line:
            raise NoLine()
        for word, pattern in PATTERNS.items():
            found = pattern.fullmatch(line)
            if found:
                return word, found.groups()
        raise NoLine()

    def state(self):
        """What is kept, and the stepper that is led, behind all lines that are not taken back."""
        kept, led = {"program": {}, "machine": {}, "code": {}}, []
        for line in self.lines:
            word, parts = self.parsed(line)
            if word == "program":
                kept[word][parts[0]] = Program(told_steps(parts[1].replace("|", "\n")))
            elif word == "machine":
                kept[word][parts[0]] = Machine(told_lengths(parts[1].replace("|", "\n")))
            elif word == "code":
                kept[word][parts[0]] = made_code(kept["program"][parts[1]], kept["machine"][parts[2]])
            elif word == "drop":
                for shelf in kept.values():
                    shelf.pop(parts[0], None)
            elif word == "begin":
                led.append(Stepper(kept["code"][parts[0]]))
            else:
                led[-1].go(int(parts[0]))
        return kept, led[-1] if led else None

    def told(self, line):
        word, parts = self.parsed(line)
        kept, led = self.state()
        if word in ("program", "machine"):
            self.judge(word, parts[1].replace("|", "\n"))
        kinds = {"code": (None, "program", "machine"), "need": ("program",), "wanted": ("program", None),
                 "enough": ("program", "machine"), "shapes": ("program",), "right": ("code",), "begin": ("code",)}
        for kind, name in zip(kinds.get(word, ()), parts):
            if kind is not None and name not in kept[kind]:
                raise NoName(name)
        if word == "drop" and not any(parts[0] in shelf for shelf in kept.values()):
            raise NoName(parts[0])
        if word in ("go", "look") and led is None:
            raise NoneLed()
        if word in ("shapes", "enough", "code"):
            program = kept["program"][parts[1 if word == "code" else 0]]
            if need(program) not in range(1, 8):
                raise BadNeed()
        found = self.found(word, parts, kept, led)
        if word in ("program", "machine", "drop", "begin", "go") or (word == "code" and found == "ok"):
            self.lines.append(line)
        return found

    def judge(self, word, text):
        line = bad_program_line(text) if word == "program" else bad_machine_line(text)
        if line is not None:
            raise BadText(line)
        if word == "machine":
            Machine(told_lengths(text))
            return
        program = Program(told_steps(text))
        if all_faults(program):
            raise Faulty(*all_faults(program)[0])

    def found(self, word, parts, kept, led):
        if word in ("program", "machine", "drop", "begin"):
            return "ok"
        if word == "code":
            return "none" if made_code(kept["program"][parts[1]], kept["machine"][parts[2]]) is None else "ok"
        if word == "names":
            return words_or_none(sorted(kept["program"]))
        if word == "right":
            return "no" if table(kept["code"][parts[0]]) is None else "yes"
        if word == "look":
            return " ".join([",".join(map(item_word, row)) for row in led.holding()])
        if word == "go":
            return words_or_none([f"{item_word(due)}/{item_word(there)}" for due, there in led.go(int(parts[0]))])
        if word == "undo":
            if not self.lines:
                raise NothingDone()
            self.lines.pop()
            return "ok"
        return self.asked(word, kept["program"][parts[0]], parts, kept)

    def asked(self, word, program, parts, kept):
        if word == "need":
            return str(need(program))
        if word == "wanted":
            if int(parts[1]) >= len(program.steps):
                raise NoPlace()
            return words_or_none(wanted(program)[int(parts[1])])
        if word == "enough":
            return "yes" if enough(program, kept["machine"][parts[1]]) else "no"
        return words_or_none([",".join(map(str, shape)) for shape in shapes(program)])


ERRORS = (BadMachine, BadNeed, BadProgram, BadText, Faulty, NoLine, NoName, NoPlace, NoneLed, NothingDone, NoWay, Over)
