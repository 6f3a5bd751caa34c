"""Texts read back as programs, machines and codes."""

from fullbelts.codes import Code
from fullbelts.errors import BadText
from fullbelts.kinds import is_name
from fullbelts.machines import Machine
from fullbelts.programs import Program

MOST_DIGITS = 9

# The order of the lines of a code is (OF_PLACE, place) or (OF_WAY, place, number): places stand ahead of ways.
NO_ORDER = (0,)
OF_PLACE = 1
OF_WAY = 2


def is_decimal(word):
    """Whether it is a number without a sign and needless zeros, and not too long."""
    if not 1 <= len(word) <= MOST_DIGITS or not all(["0" <= sign <= "9" for sign in word]):
        return False
    return word == "0" or word[0] != "0"


def are_decimals(words):
    return all([is_decimal(word) for word in words])


def split_text(text):
    """The list of the lists of the words of its lines, and what stands behind the last line feed."""
    if not isinstance(text, str):
        raise BadText(0)
    lines = text.split("\n")
    return [line.split(" ") for line in lines[:-1]], lines[-1]


def read_program(text):
    """The program of a text."""
    lines, rest = split_text(text)
    steps = [step_of(words) for words in lines]
    for number, step in enumerate(steps, start=1):
        if step is None:
            raise BadText(number)
    if rest or not lines:
        raise BadText(len(lines) + 1)
    return Program(tuple(steps))


def step_of(words):
    """The step that the words of a line tell, or None."""
    kind = words[0]
    many = len(words)
    if kind == "end" and many == 1:
        return ("end",)
    if kind == "go" and many == 2 and is_decimal(words[1]):
        return ("go", int(words[1]))
    if many < 3 or not is_name(words[1]):
        return None
    if kind == "tell" and many == 3 and is_decimal(words[2]):
        return ("tell", words[1], int(words[2]))
    if kind == "test" and many in (4, 5) and are_decimals(words[2:]):
        return ("test", words[1], tuple([int(word) for word in words[2:]]))
    reads = words[2:-1]
    if kind == "make" and many <= 5 and all([is_name(word) for word in reads]) and is_decimal(words[-1]):
        return ("make", words[1], tuple(reads), int(words[-1]))
    return None


def read_machine(text):
    """The machine of a text."""
    lines, rest = split_text(text)
    if lines and not are_decimals(lines[0]):
        raise BadText(1)
    if len(lines) > 1:
        raise BadText(2)
    if rest or not lines:
        raise BadText(len(lines) + 1)
    return Machine(tuple([int(word) for word in lines[0]]))


def read_code(program, machine, text):
    """The code of a text, for the program and the machine."""
    lines, rest = split_text(text)
    entries = [entry_of(words) for words in lines]
    above = NO_ORDER
    for number, entry in enumerate(entries, start=1):
        if entry is None or entry[0] <= above:
            raise BadText(number)
        above = entry[0]
    if rest:
        raise BadText(len(lines) + 1)
    rooms = {order[1]: things for order, things, _ in entries if order[0] == OF_PLACE and things}
    belts = {order[1]: belt for order, _, belt in entries if order[0] == OF_PLACE and belt is not None}
    carries = {order[1:]: things for order, things, _ in entries if order[0] == OF_WAY}
    return Code(program, machine, rooms, belts, carries)


def entry_of(words):
    """What a line of a code tells, or None: its order among the lines, rooms or carries, and a belt or None."""
    return way_entry(words) if "/" in words[0] else place_entry(words)


def place_entry(words):
    place = words[0]
    belt = None
    rest = words[1:]
    if len(words) > 2 and words[-2] == ">" and is_decimal(words[-1]):
        belt = int(words[-1])
        rest = words[1:-2]
    rooms = [room_of(word) for word in rest]
    if not is_decimal(place) or None in rooms or (not rooms and belt is None):
        return None
    return ((OF_PLACE, int(place)), tuple(rooms), belt)


def way_entry(words):
    place, _, number = words[0].partition("/")
    carries = [carry_of(word) for word in words[1:]]
    if not are_decimals([place, number]) or None in carries or not carries:
        return None
    return ((OF_WAY, int(place), int(number)), tuple(carries), None)


def room_of(word):
    """The room that a word tells, or None."""
    belt, _, place = word.partition(".")
    return (int(belt), int(place)) if are_decimals([belt, place]) else None


def carry_of(word):
    """The carry that a word tells, or None."""
    room, _, belt = word.partition(">")
    found = room_of(room)
    return (found, int(belt)) if found is not None and is_decimal(belt) else None
