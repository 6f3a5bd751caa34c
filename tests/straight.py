"""Straight programs, and their stands reckoned slowly and plainly."""

import random

from carrying import leads, lengths
from fullbelts.programs import Program
from reckoning import holding_of, nothing, passed_in
from samples import all_wants, goals, is_name, reads


def is_straight(program):
    steps = program.steps
    if steps[-1][0] != "end" or any(step[0] in ("end", "test") for step in steps[:-1]):
        return False
    return all(goals(step) == (place + 1,) for place, step in enumerate(steps[:-1]))


def random_straight(rng, most, words):
    """A straight program without faults of so many steps ahead of its end, at most."""
    steps, made = [], []
    for place in range(rng.randint(1, most)):
        kind = rng.choice(("make", "make", "make", "tell", "tell", "go") if made else ("make", "make", "go"))
        if kind == "make":
            name = rng.choice(words)
            steps.append(("make", name, tuple(rng.choices(made, k=rng.randrange(3))) if made else (), place + 1))
            made.append(name)
        elif kind == "tell":
            steps.append(("tell", rng.choice(made), place + 1))
        else:
            steps.append(("go", place + 1))
    return Program(tuple(steps) + (("end",),)) if made else random_straight(rng, most, words)


def straight_programs(many, seed, most=8, words=("x", "y", "z", "w")):
    rng = random.Random(seed)
    return [random_straight(rng, most, words[:rng.randint(1, len(words))]) for _ in range(many)]


def stirred(many, seed):
    """Straight programs of two or three names that are made anew again and again, and told at last."""
    rng = random.Random(seed)
    found = []
    for _ in range(many):
        words = ("x", "y", "z")[:rng.choice((2, 3, 3))]
        rows = [("make", name, ()) for name in words]
        rows += [("make", rng.choice(words), (rng.choice(words),)) for _ in range(rng.randint(1, 7))]
        rows += [("tell", name) for name in rng.sample(words, len(words))]
        found.append(Program(tuple([(*row, place + 1) for place, row in enumerate(rows)]) + (("end",),)))
    return found


def kept(holding, names):
    return holding_of([[item if item in names else None for item in row] for row in holding])


class Graph:
    """All stands that come from the first one, and what leads from each."""

    def __init__(self, program, machine):
        self.steps, self.wants, self.belts = program.steps, all_wants(program), machine.belts
        self.begin = (0, nothing(machine))
        self.last = len(self.steps) - 1

    def by_step(self, stand):
        place, holding = stand
        step = self.steps[place]
        items = [item for row in holding for item in row]
        if place == self.last or any(name not in items for name in reads(step)):
            return []
        behind = [holding]
        if step[0] == "make":
            behind = [passed_in(step, holding, belt) for belt in range(len(self.belts))]
        return [(place + 1, kept(one, self.wants[place + 1])) for one in behind]

    def by_carry(self, stand):
        return [(stand[0], holding) for _, holding in leads(stand[1])] if stand[0] > 0 else []

    def is_stand(self, thing):
        if type(thing) is not tuple or len(thing) != 2 or type(thing[0]) is not int or type(thing[1]) is not tuple:
            return False
        if thing[0] not in range(len(self.steps)) or any(type(row) is not tuple for row in thing[1]):
            return False
        items = [item for row in thing[1] for item in row]
        return lengths(thing[1]) == self.belts and all(
            item is None or (is_name(item) and item in self.wants[thing[0]]) for item in items)

    def stands(self):
        found, rest = {self.begin}, [self.begin]
        while rest:
            stand = rest.pop()
            for other in self.by_step(stand) + self.by_carry(stand):
                if other not in found:
                    found.add(other)
                    rest.append(other)
        return found

    def heights(self):
        """The least numbers, made less as long as any can be made less."""
        found = {stand: 0 if stand[0] == self.last else None for stand in self.stands()}
        ahead = {stand: [(other, 0) for other in set(self.by_step(stand))]
                 + [(other, 1) for other in set(self.by_carry(stand))] for stand in found}
        changed = True
        while changed:
            changed = False
            for stand in sorted(found, key=lambda one: -one[0]):
                sums = [found[other] + cost for other, cost in ahead[stand] if found[other] is not None]
                if sums and (found[stand] is None or min(sums) < found[stand]):
                    found[stand] = min(sums)
                    changed = True
        return found

    def is_floor(self, least, thing):
        if type(thing) is not dict or not all(self.is_stand(key) for key in thing):
            return False
        if not all(value is None or (type(value) is int and value >= 0) for value in thing.values()):
            return False
        if any(stand not in thing for stand in self.stands()):
            return False
        endless = 10 ** 100
        height = {stand: endless if value is None else value for stand, value in thing.items()}
        for stand in thing:
            if stand[0] == self.last and thing[stand] != 0:
                return False
            if any(height[other] < height[stand] for other in self.by_step(stand) if other in thing):
                return False
            for other in self.by_carry(stand):
                if other in thing and thing[stand] is None and thing[other] is not None:
                    return False
                if other in thing and thing[stand] is not None and height[other] < height[stand] - 1:
                    return False
        return height[self.begin] >= least or thing[self.begin] is None


def slow_cheapest(program, machine):
    """The least number of carries on the run, whatever the rooms hold beside what is wanted; None if none will do."""
    steps = program.steps
    costs, rest = {(0, nothing(machine)): 0}, {0: [(0, nothing(machine))]}
    while rest:
        cost = min(rest)
        for state in rest.pop(cost):
            place, holding = state
            if costs[state] < cost:
                continue
            if place == len(steps) - 1:
                return cost
            items = [item for row in holding for item in row]
            ahead = []
            if all(name in items for name in reads(steps[place])):
                behind = [holding]
                if steps[place][0] == "make":
                    behind = [passed_in(steps[place], holding, belt) for belt in range(len(machine.belts))]
                ahead = [((place + 1, other), cost) for other in behind]
            if place > 0:
                ahead += [((place, other), cost + 1) for _, other in leads(holding)]
            for other, more in ahead:
                if more < costs.get(other, more + 1):
                    costs[other] = more
                    rest.setdefault(more, []).append(other)
    return None
