"""Sample programs, odd things and slow but plain reckonings, for all tests."""

import copy
import random
import re
from itertools import product

from fullbelts.codes import Code
from fullbelts.errors import BadProgram, NoName
from fullbelts.machines import Machine
from fullbelts.programs import Program
from fullbelts.runs import Run

S_STEPS = (
    ("make", "x", (), 1), ("make", "y", (), 2), ("test", "x", (3, 6)), ("make", "t", ("x",), 4),
    ("make", "x", ("y",), 5), ("make", "y", ("t",), 2), ("tell", "x", 7), ("tell", "y", 8), ("end",))

# Every form of step; 6 is reached from nowhere but 7, and 7 from nowhere.
FORMS_STEPS = (
    ("make", "a", (), 1), ("make", "bbbbbbbb", ("a", "a"), 2), ("test", "a", (3, 3, 5)), ("go", 4),
    ("tell", "bbbbbbbb", 2), ("end",), ("make", "a", ("a",), 6), ("test", "a", (6, 0)))


def s():
    return Program(S_STEPS)


def forms():
    return Program(FORMS_STEPS)


def c():
    """A right code for s on one belt of two rooms."""
    rooms = {place: ((0, 1),) for place in range(2, 7)}
    return Code(s(), Machine((2,)), {**rooms, 7: ((0, 0),)}, {0: 0, 1: 0, 3: 0, 4: 0, 5: 0}, {})


def ring(many):
    """Two makes, and then a ring of gos at whose last place x is tested."""
    gos = tuple([("go", place) for place in range(3, many + 2)])
    return Program((("make", "x", (), 1), ("make", "y", (), 2)) + gos + (("test", "x", (2, many + 2)), ("end",)))


def nested(deep, wrap):
    thing = None
    for _ in range(deep):
        thing = wrap(thing)
    return thing


def plain_things():
    """Things that can be copied and compared, none of them of this package."""
    return [
        None, True, False, 0, 1, 2, -1, -2, 10 ** 59, 10 ** 60 - 1, -10 ** 59, "", "x", "y", "xy", "0", "X", "x y",
        "a\nb", "make", "abcdefghi", "~" * 5000, b"x", b"", bytearray(b"x"), [], [0], [()], ["x"], (), (0,), (1,),
        (0, 0), (0, 1), (2, 0), (0, True), (True, 0), (False,), (True,), ("x",), ("0",), ("x", "y"), (0, 0, 0),
        (None,), ((),), ([],), ({},), [0, 0], ((0, 0), 0), ((0,), (0,)), {}, {0: 0}, {"x": "y"}, {(0, 0): []},
        {None: {}}, range(0), range(2), slice(0, 1), Ellipsis, NotImplemented, int, bool, tuple, len, max,
        nested(40, lambda thing: (thing,)), nested(40, lambda thing: [thing]), nested(40, lambda thing: {0: thing}),
        nested(40, lambda thing: (0, thing)), nested(40, lambda thing: ("make", thing)),
        (0,) * 9999, [0] * 9999, ("x",) * 9999, tuple([(0, 0)] * 3000), {number: number for number in range(4900)}]


def odd_things():
    """Things of all kinds that may be handed in where a thing is judged."""
    own = [s(), BadProgram("steps"), NoName("x"), BadProgram, Program, (s(), s()), [s()], {0: s()}, (s(), (0,)),
           Machine((2,)), Machine, c(), Code, Run(s()), Run, Run(s()).go, (Machine((1, 1)), c()), {(0, 0): c()},
           {Run(s()): 0}, [Run(s())]]
    passing = [
        object(), object, iter([0]), iter((0,)), (number for number in (0,)), zip((0,), (0,)), map(len, ()),
        enumerate((0,)), reversed((0,)), {0: 0}.keys(), {0: 0}.values(), {0: 0}.items(), memoryview(b"x"),
        lambda: 0, odd_things, random, ValueError("x"), "x".join, property(len), staticmethod(len), super]
    return plain_things() + own + passing


def check_unchanged(test, call):
    """Call with each thing that can be copied, and see that it stays as it is."""
    for thing, kept in zip(plain_things(), copy.deepcopy(plain_things())):
        call(thing)
        test.assertEqual(thing, kept)


def raised(call, *arguments):
    """The error of this call, or None."""
    try:
        call(*arguments)
    except Exception as error:
        return error
    return None


def outcome(call, *arguments):
    """What the call returns, or the class and the fields of its error."""
    try:
        return call(*arguments)
    except ValueError as error:
        return type(error), vars(error)


def is_name(thing):
    return type(thing) is str and re.fullmatch("[a-z]{1,8}", thing) is not None


# The reckonings below follow the words of the document, without thought of the time that they take.


def goals(step):
    return {"make": lambda: (step[3],), "tell": lambda: (step[2],), "test": lambda: step[2],
            "go": lambda: (step[1],), "end": lambda: ()}[step[0]]()


def reads(step):
    return {"make": lambda: step[2], "tell": lambda: (step[1],), "test": lambda: (step[1],),
            "go": lambda: (), "end": lambda: ()}[step[0]]()


def makes(step, name):
    return step[0] == "make" and step[1] == name


def names(program):
    made = [step[1] for step in program.steps if step[0] == "make"]
    return sorted(set(made + [name for step in program.steps for name in reads(step)]))


def places_of_route(program, place, route):
    """The places at which the route stands, or None if it is no route."""
    if type(route) is not tuple:
        return None
    places = [place]
    for number in route:
        ahead = goals(program.steps[places[-1]])
        if type(number) is not int or number not in range(len(ahead)):
            return None
        places.append(ahead[number])
    return places


def shows(program, place, route, name):
    """Whether the route leads to a reading of the name and leaves no place that makes it."""
    places = places_of_route(program, place, route)
    if places is None or name not in reads(program.steps[places[-1]]):
        return False
    return not any(makes(program.steps[left], name) for left in places[:-1])


def leads(program, name):
    """The pairs of places between which a route leads that leaves no place that makes the name."""
    many = range(len(program.steps))
    pairs = {(place, place) for place in many}
    pairs |= {(place, ahead) for place in many if not makes(program.steps[place], name)
              for ahead in goals(program.steps[place])}
    for middle in many:
        pairs |= {(begin, end) for begin in many if (begin, middle) in pairs for end in many if (middle, end) in pairs}
    return pairs


def reached_places(program):
    return [place for place in range(len(program.steps)) if (0, place) in leads(program, None)]


def least_route(program, place):
    """The least of the shortest routes from 0, or None."""
    for length in range(len(program.steps)):
        for route in product(range(3), repeat=length):
            places = places_of_route(program, 0, route)
            if places is not None and places[-1] == place:
                return route
    return None


def all_faults(program):
    found = []
    for name in names(program):
        pairs = leads(program, name)
        found += [(place, name) for place, step in enumerate(program.steps)
                  if name in reads(step) and (0, place) in pairs]
    return sorted(found)


def all_wants(program):
    there = reached_places(program)
    wants = [set() for _ in program.steps]
    for name in names(program):
        for begin, end in leads(program, name):
            if begin in there and name in reads(program.steps[end]):
                wants[begin].add(name)
    return [tuple(sorted(found)) for found in wants]


def all_loads(program):
    """The dict from the reached places to their loads."""
    wants = all_wants(program)
    loads = {}
    for place in reached_places(program):
        step = program.steps[place]
        behind = set(wants[step[3]]) | {step[1]} if step[0] == "make" else set()
        loads[place] = max(len(wants[place]), len(behind))
    return loads


def random_steps(rng, many, words):
    steps = []
    for _ in range(many):
        place = rng.randrange(many)
        steps.append(rng.choice([
            ("make", rng.choice(words), tuple(rng.choices(words, k=rng.randrange(3))), place),
            ("make", rng.choice(words), tuple(rng.choices(words, k=rng.randrange(3))), place),
            ("tell", rng.choice(words), place),
            ("test", rng.choice(words), tuple(rng.choices(range(many), k=rng.choice((2, 2, 3))))),
            ("go", place),
            ("end",)]))
    return tuple(steps)


def random_programs(many):
    """Programs of all sorts, with faults and without."""
    rng = random.Random(many)
    return [Program(random_steps(rng, rng.randint(1, 6), ("x", "y", "z")[:rng.randint(1, 3)])) for _ in range(many)]


def moved_steps(steps, by):
    """The steps with all places greater by so many."""
    def moved(step):
        if step[0] == "test":
            return (*step[:2], tuple([place + by for place in step[2]]))
        return step if step[0] == "end" else (*step[:-1], step[-1] + by)
    return tuple([moved(step) for step in steps])


def faultless_programs(many):
    """Programs without faults, most of which have tests and rings."""
    rng = random.Random(-many)
    found = [s(), forms()]
    while len(found) < many:
        words = ("x", "y", "z")[:rng.randint(1, 3)]
        first = rng.choice((words, words, words[:1]))
        steps = tuple([("make", name, (), place + 1) for place, name in enumerate(first)])
        steps += moved_steps(random_steps(rng, rng.randint(1, 6), words), len(first))
        if not all_faults(Program(steps)):
            found.append(Program(steps))
    return found


def grown(test, steps):
    """A program of more places than can be constructed, as later parts return them.

    Only where a program is just its steps can one be made here.
    """
    program = Program((("end",),))
    if getattr(program, "__dict__", None) != {"steps": (("end",),)}:
        test.skipTest("no such program can be made from outside")
    program.steps = steps
    return program


def grown_ring(test, many):
    """A make, and then so many tests in a ring; the way with number 1 leads on."""
    tests = tuple([("test", "x", (many + 1, place % many + 1)) for place in range(1, many + 1)])
    return grown(test, (("make", "x", (), 1),) + tests + (("end",),))
