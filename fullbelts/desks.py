"""The desk: programs, machines and codes kept by name, and what is asked of them, line by line."""

from fullbelts.errors import BadNeed, Faulty, NoLine, NoName, NoneLed, NoPlace, NothingDone
from fullbelts.kinds import is_name, is_number
from fullbelts.makers import code_for
from fullbelts.reading import is_decimal, read_machine, read_program
from fullbelts.shapes import shapes
from fullbelts.steppers import Stepper
from fullbelts.tables import table
from fullbelts.verdicts import enough
from fullbelts.wants import need, wanted
from fullbelts.webs import faults

LEAST_NEED = 1
MOST_NEED = 7

# What stands behind the first word of a line: names of what is kept, new names, numbers and texts.
FORMS = {
    "program": ("new", "text"),
    "machine": ("new", "text"),
    "code": ("new", "program", "machine"),
    "drop": ("new",),
    "names": (),
    "need": ("program",),
    "wanted": ("program", "number"),
    "enough": ("program", "machine"),
    "shapes": ("program",),
    "right": ("code",),
    "begin": ("code",),
    "go": ("number",),
    "look": (),
    "undo": (),
}


def parsed(line):
    """The first word of a line, and the list of what stands behind it."""
    if not isinstance(line, str) or "\n" in line:
        raise NoLine()
    word, _, rest = line.partition(" ")
    if word not in FORMS:
        raise NoLine()
    forms = FORMS[word]
    if "text" in forms:
        name, _, text = rest.partition(" ")
        parts = [name, text]
    else:
        parts = line.split(" ")[1:]
    if len(parts) != len(forms) or not all([fits(form, part) for form, part in zip(forms, parts)]):
        raise NoLine()
    return word, parts


def fits(form, part):
    if form == "text":
        return part != ""
    return is_decimal(part) if form == "number" else is_name(part)


def text_of(part):
    """The text that stands in a line."""
    return part.replace("|", "\n")


def listed(words):
    return " ".join(words) if words else "none"


def item_word(item):
    return "-" if item is None else str(item)


def flag_word(flag):
    return "yes" if flag else "no"


def check_need(program):
    if not LEAST_NEED <= need(program) <= MOST_NEED:
        raise BadNeed()


class Desk:
    """Works by lines: each one keeps, drops, asks, leads or takes back."""

    def __init__(self):
        self._kept = {"program": {}, "machine": {}, "code": {}}
        self._led = None
        # One entry for each line that can be taken back: a word, and what was there before.
        self._done = []

    def tell(self, line):
        """Do a line, and tell the answer."""
        word, parts = parsed(line)
        actions = {
            "program": self._keep_program, "machine": self._keep_machine, "code": self._keep_code,
            "drop": self._drop, "names": self._names, "need": self._need, "wanted": self._wanted,
            "enough": self._enough, "shapes": self._shapes, "right": self._right, "begin": self._begin,
            "go": self._go, "look": self._look, "undo": self._undo}
        action = actions[word]
        return action(*parts)

    def undoable(self):
        """How many lines can be taken back."""
        return len(self._done)

    def _find(self, kind, name):
        """What is kept under the name."""
        if name not in self._kept[kind]:
            raise NoName(name)
        return self._kept[kind][name]

    def _keep(self, entries):
        """Keep a thing, or none, for each entry (kind, name, thing), so that it can be taken back."""
        elder = [(kind, name, self._kept[kind].get(name)) for kind, name, _ in entries]
        self._put_down(entries)
        self._done.append(("keep", elder))
        return "ok"

    def _put_down(self, entries):
        for kind, name, thing in entries:
            if thing is None:
                self._kept[kind].pop(name, None)
            else:
                self._kept[kind][name] = thing

    def _keep_program(self, name, text):
        program = read_program(text_of(text))
        found = faults(program)
        if found:
            place, read = found[0]
            raise Faulty(place, read)
        return self._keep([("program", name, program)])

    def _keep_machine(self, name, text):
        return self._keep([("machine", name, read_machine(text_of(text)))])

    def _keep_code(self, name, program, machine):
        found, there = self._program_and_machine(program, machine)
        code = code_for(found, there)
        return "none" if code is None else self._keep([("code", name, code)])

    def _program_and_machine(self, program, machine):
        """What is kept under these names, where the program's need is neither too small nor too great."""
        found = self._find("program", program)
        there = self._find("machine", machine)
        check_need(found)
        return found, there

    def _drop(self, name):
        if not any([name in self._kept[kind] for kind in self._kept]):
            raise NoName(name)
        return self._keep([(kind, name, None) for kind in self._kept])

    def _names(self):
        return listed(sorted(self._kept["program"]))

    def _need(self, name):
        return str(need(self._find("program", name)))

    def _wanted(self, name, number):
        program = self._find("program", name)
        place = int(number)
        if not is_number(place, len(program.steps)):
            raise NoPlace()
        return listed(wanted(program)[place])

    def _enough(self, program, machine):
        found, there = self._program_and_machine(program, machine)
        return flag_word(enough(found, there))

    def _shapes(self, name):
        program = self._find("program", name)
        check_need(program)
        return listed([",".join([str(length) for length in shape]) for shape in shapes(program)])

    def _right(self, name):
        return flag_word(table(self._find("code", name)) is not None)

    def _begin(self, name):
        code = self._find("code", name)
        self._done.append(("begin", self._led))
        self._led = Stepper(code)
        return "ok"

    def _stepper(self):
        if self._led is None:
            raise NoneLed()
        return self._led

    def _go(self, number):
        pairs = self._stepper().go(int(number))
        self._done.append(("go", None))
        return listed([f"{item_word(due)}/{item_word(found)}" for due, found in pairs])

    def _look(self):
        rows = self._stepper().holding()
        return " ".join([",".join([item_word(item) for item in row]) for row in rows])

    def _undo(self):
        if not self._done:
            raise NothingDone()
        word, elder = self._done.pop()
        if word == "keep":
            self._put_down(elder)
        elif word == "begin":
            self._led = elder
        else:
            # A begin behind it is taken back already: this is the stepper that went.
            self._led.back(1)
        return "ok"
