"""Programs whose rings turn names as they are told to."""

import functools
import random

from fullbelts.programs import Program
from fullbelts.webs import faults
from samples import moved_steps
from turning import slow_full, slow_need

WORDS = ("a", "b", "c", "d", "e", "f", "g")
SPARE = "t"


def cycles(renaming):
    """The cycles of a dict from names to names that are longer than one."""
    found, seen = [], set()
    for name in sorted(renaming):
        cycle = []
        while name not in seen:
            seen.add(name)
            cycle.append(name)
            name = renaming[name]
        if len(cycle) > 1:
            found.append(cycle)
    return found


def makes_for(renaming):
    """Pairs (name, read) of makes that rename so: each name's result is given to what it shall become."""
    found = []
    for cycle in cycles(renaming):
        # The last name becomes the first one: all others are made anew from their forerunners, backwards.
        found.append((SPARE, cycle[-1]))
        found += [(cycle[at], cycle[at - 1]) for at in range(len(cycle) - 1, 0, -1)]
        found.append((cycle[0], SPARE))
    return found


def turner(rows, extra=()):
    """A program of as many names as are in a row, with a ring for each row, which the names become on it.

    Behind the makes of all names come tests, each ahead of its ring, and then tells.
    """
    many = len(rows[0]) if rows else 1
    words = WORDS[:many]
    steps = [("make", name, (), at + 1) for at, name in enumerate(words)]
    for row in rows:
        steps += ring_steps(len(steps), words, dict(zip(words, row)))
    steps += extra
    steps += [("tell", name, len(steps) + at + 1) for at, name in enumerate(words)]
    return Program(tuple(steps) + (("end",),))


def ring_steps(here, words, renaming):
    """A test at the place and a ring that leads back to it; the test's last goal is behind the ring."""
    makes = makes_for(renaming)
    behind = here + 1 + max(1, len(makes))
    steps = [("test", words[0], (here + 1, behind))]
    if not makes:
        return steps + [("go", here)]
    for at, (name, read) in enumerate(makes):
        ahead = here if at == len(makes) - 1 else here + 2 + at
        steps.append(("make", name, (read,), ahead))
    return steps


def apart(programs):
    """One program that goes these, one behind another, so that their places hang together in none."""
    steps = []
    for program in programs[:-1]:
        own = len(program.steps)
        here = len(steps)
        steps += [("go", here + 1)] + list(moved_steps(program.steps, here + 1))
        assert steps[-1] == ("end",)
        steps[-1] = ("go", here + own + 1)
    return Program(tuple(steps) + moved_steps(programs[-1].steps, len(steps)))


def named(program, new):
    """The program with other names, after a dict."""
    def changed(step):
        if step[0] == "make":
            return ("make", new.get(step[1], step[1]), tuple([new.get(name, name) for name in step[2]]), step[3])
        return (step[0], new.get(step[1], step[1]), *step[2:]) if step[0] in ("tell", "test") else step
    return Program(tuple([changed(step) for step in program.steps]))


@functools.lru_cache(None)
def random_turners(most, many, seed):
    """The tuple of programs with up to two rings that turn up to so many names."""
    rng = random.Random(seed)
    found = []
    while len(found) < many:
        words = WORDS[:rng.randint(1, most)]
        rows = [tuple(rng.sample(words, len(words))) for _ in range(rng.randint(1, 2))]
        if rng.randrange(2):
            rows = [random_turning(rng, words) for _ in rows]
        if sum(2 + len(makes_for(dict(zip(words, row)))) for row in rows) + 2 * len(words) < 40:
            found.append(turner(rows))
    return tuple(found)


def random_turning(rng, words):
    """A row in which most names stay, and some pairs or triples are exchanged."""
    row = list(words)
    free = list(range(len(words)))
    rng.shuffle(free)
    size = rng.choice((2, 2, 3))
    for _ in range(rng.randint(0, 3)):
        if len(free) >= size:
            at = [free.pop() for _ in range(size)]
            kept = [row[one] for one in at]
            for one, name in zip(at, kept[1:] + kept[:1]):
                row[one] = name
    return tuple(row)


def changed_steps(rng, steps):
    """The steps with one goal or one name changed, or a goal more at a test."""
    steps = list(steps)
    at = rng.randrange(len(steps))
    step, place = steps[at], rng.randrange(len(steps))
    if step[0] == "test" and rng.randrange(2) and len(step[2]) == 2:
        steps[at] = ("test", step[1], step[2] + (place,))
    elif step[0] == "test":
        branches = list(step[2])
        branches[rng.randrange(len(branches))] = place
        steps[at] = ("test", step[1], tuple(branches))
    elif step[0] == "make" and step[2] and rng.randrange(2):
        steps[at] = ("make", step[1], (rng.choice(WORDS[:4]),), step[3])
    elif step[0] == "make":
        steps[at] = (*step[:3], place)
    elif step[0] == "tell":
        steps[at] = ("test", step[1], (step[2], place))
    return tuple(steps)


@functools.lru_cache(None)
def changed_turners(many, seed):
    """The tuple of programs that come of turners of few names by some changes: of all sorts, most with pieces of many places."""
    rng = random.Random(seed)
    found = []
    while len(found) < many:
        words = WORDS[:rng.choice((2, 3, 3, 4))]
        rows = [random_turning(rng, words) for _ in range(rng.choice((1, 2, 2)))]
        extra = (("go", 0),) if rng.randrange(4) == 0 else ()
        program = turner([rng.choice((row, tuple(rng.sample(words, len(words))))) for row in rows], extra)
        for _ in range(rng.randint(1, 4)):
            other = Program(changed_steps(rng, program.steps))
            if not faults(other) and 1 <= slow_need(other) <= 5 and slow_full(other):
                program = other
        found.append(program)
    return tuple(found)


# Need 1, and one full place.
LONE = Program((("make", "x", (), 1), ("tell", "x", 2), ("end",)))

# Nobody wants w: its make needs two rooms, and no place is full.
NOWHERE = Program((("make", "x", (), 1), ("make", "w", (), 2), ("tell", "x", 3), ("end",)))

# Only the place of the make that reads both is full.
AT_A_MAKE = Program((("make", "x", (), 1), ("make", "y", (), 2), ("make", "z", ("x", "y"), 3), ("tell", "z", 4),
                     ("end",)))

# Full ways from a place to itself: of a test, twice, and of a make that reads what it makes. 4 is not reached.
ITSELF = Program((("make", "x", (), 1), ("make", "y", (), 2), ("test", "x", (2, 2, 3)),
                  ("make", "x", ("x", "y"), 3), ("tell", "x", 2)))

# No full way leads back; the names are exchanged on the one branch, and stay on the other one.
FORKED = Program((("make", "a", (), 1), ("make", "b", (), 2), ("test", "a", (3, 6)), ("make", "t", ("b",), 4),
                  ("make", "b", ("a",), 5), ("make", "a", ("t",), 6), ("tell", "a", 7), ("tell", "b", 8), ("end",)))

# Two full places that lead to one another, by ways of two kinds, and one that leads nowhere full.
BOTH = Program((("make", "a", (), 1), ("make", "b", (), 2), ("test", "a", (3, 4)), ("test", "b", (2, 2, 4)),
                ("tell", "a", 5), ("tell", "b", 6), ("end",)))


def wide(many):
    """The steps of a program like s with so many gos ahead of its test: more places than can be constructed."""
    gos = tuple([("go", place) for place in range(3, many + 3)])
    here = many + 2
    return (("make", "x", (), 1), ("make", "y", (), 2)) + gos + (
        ("test", "x", (here + 1, here + 4)), ("make", "t", ("x",), here + 2), ("make", "x", ("y",), here + 3),
        ("make", "y", ("t",), 2), ("tell", "x", here + 5), ("tell", "y", here + 6), ("end",))


def turner_of(*rows):
    """The turner of rows that are written as words of one-letter names."""
    return turner([tuple(row) for row in rows])


# All renamings of six and of seven names, made by two rings.
SIX = turner_of("bcdefa", "bacdef")
SEVEN = turner_of("bcdefga", "bacdefg")
