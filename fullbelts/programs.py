"""Programs, and what stands in a step."""

from fullbelts.errors import BadProgram
from fullbelts.kinds import is_name, is_number, is_tuple

MOST_PLACES = 40
MOST_NAMES = 12


class Program:
    """The steps of a program, one for each place."""

    def __init__(self, steps):
        if not is_tuple(steps, 1, MOST_PLACES):
            raise BadProgram("steps")
        for place, step in enumerate(steps):
            if not is_step(step, len(steps)):
                raise BadProgram(place)
        if len(names_of(steps)) > MOST_NAMES:
            raise BadProgram("names")
        self.steps = steps

    def __eq__(self, other):
        return isinstance(other, Program) and self.steps == other.steps


def is_step(thing, many):
    """Whether it is a step of a program with that many places."""
    if not is_tuple(thing, 1, 4) or not isinstance(thing[0], str):
        return False
    kind, rest = thing[0], thing[1:]
    if kind == "make":
        return len(rest) == 3 and is_name(rest[0]) and are_reads(rest[1]) and is_number(rest[2], many)
    if kind == "tell":
        return len(rest) == 2 and is_name(rest[0]) and is_number(rest[1], many)
    if kind == "test":
        return len(rest) == 2 and is_name(rest[0]) and are_branches(rest[1], many)
    if kind == "go":
        return len(rest) == 1 and is_number(rest[0], many)
    return kind == "end" and len(rest) == 0


def are_reads(thing):
    return is_tuple(thing, 0, 2) and all([is_name(name) for name in thing])


def are_branches(thing, many):
    return is_tuple(thing, 2, 3) and all([is_number(place, many) for place in thing])


def goals_of(step):
    """The places in a step, in order, alike ones as often as they stand."""
    if step[0] == "end":
        return ()
    if step[0] == "test":
        return step[2]
    return (step[-1],)


def reads_of(step):
    """The names that a step reads, in order."""
    if step[0] == "make":
        return step[2]
    if step[0] in ("tell", "test"):
        return (step[1],)
    return ()


def made_by(step):
    """The name that a step makes, or None."""
    return step[1] if step[0] == "make" else None


def names_of(steps):
    """The ascending list of the names in the steps."""
    made = [step[1] for step in steps if step[0] == "make"]
    read = [name for step in steps for name in reads_of(step)]
    return sorted(set(made + read))


def with_goals(step, goals):
    """The step with other goals, as many as it has."""
    if step[0] == "end":
        return step
    if step[0] == "test":
        return step[:2] + (tuple(goals),)
    return step[:-1] + (goals[0],)


def unbounded(steps):
    """The program of these steps, however many: they are bounded only where a program is constructed."""
    program = Program((("end",),))
    program.steps = steps
    return program
