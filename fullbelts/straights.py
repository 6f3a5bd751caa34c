"""Straight programs: the fewest carries of a right code, and what shows that no fewer will do."""

from fullbelts.codes import Code, flat
from fullbelts.errors import NotStraight, TooLarge
from fullbelts.homes import behind_step
from fullbelts.kinds import is_integer, is_number, is_tuple
from fullbelts.machines import empty, is_holding, lengths_of
from fullbelts.programs import goals_of, reads_of
from fullbelts.shortest import carried_on
from fullbelts.shuffles import rooms_of
from fullbelts.wants import wanted

MOST_ROOMS = 4


class Stands:
    """The stands of a straight program on a machine, and what leads from each of them."""

    def __init__(self, program, machine):
        self._steps = program.steps
        self._wants = wanted(program)
        self._lengths = machine.belts
        self.begin = (0, empty(machine))
        self.last = len(program.steps) - 1
        # What is carried hangs on the holding alone: many places share it.
        self._carried_on = {}

    def is_stand(self, thing):
        if not is_tuple(thing, 2, 2) or not is_number(thing[0], len(self._steps)):
            return False
        if not is_holding(thing[1]) or lengths_of(thing[1]) != self._lengths:
            return False
        return all([item is None or item in self._wants[thing[0]] for item in flat(thing[1])])

    def by_step(self, stand):
        """The list of the pairs of a belt and the stand to which the step leads if it puts in there."""
        place, holding = stand
        step = self._steps[place]
        there = flat(holding)
        if place == self.last or not all([name in there for name in reads_of(step)]):
            return []
        # A step that makes nothing puts in at no belt: it is told once.
        fronts = list(range(len(self._lengths))) if step[0] == "make" else [0]
        return [(belt, (place + 1, self._wanted_only(place + 1, behind_step(step, holding, belt)))) for belt in fronts]

    def _wanted_only(self, place, holding):
        names = self._wants[place]
        return tuple([tuple([item if item in names else None for item in row]) for row in holding])

    def by_carry(self, stand):
        """The dict from the stands to which a carry leads to such a carry."""
        place, holding = stand
        if place == 0:
            return {}
        if holding not in self._carried_on:
            self._carried_on[holding] = {behind: carry for carry, behind in carried_on(holding)}
        carried = self._carried_on[holding]
        return {(place, behind): carried[behind] for behind in carried}

    def ahead(self, stand):
        """The list of all stands to which a step or a carry leads."""
        return [other for _, other in self.by_step(stand)] + list(self.by_carry(stand))


def check_straight(program, machine):
    if not is_straight(program.steps):
        raise NotStraight()
    if machine.size > MOST_ROOMS:
        raise TooLarge(MOST_ROOMS)


def is_straight(steps):
    last = len(steps) - 1
    if steps[last] != ("end",):
        return False
    # A test has more goals than one, and an end has none.
    return all([goals_of(step) == (place + 1,) for place, step in enumerate(steps[:last])])


def heights(program, machine):
    """The dict from the stands to the least number of carries from there to the end, or None."""
    check_straight(program, machine)
    return heights_of(Stands(program, machine))


def heights_of(stands):
    found = {}
    for layer in layers(stands)[::-1]:
        # Steps lead to the next place alone, whose heights are found already.
        first = {stand: height_by_step(stands, found, stand) for stand in layer}
        for stand, height in lowered(stands, first).items():
            found[stand] = height
    return found


def layers(stands):
    """The list of the list of the stands of each place that come from the first one."""
    found = []
    begins = [stands.begin]
    for _ in range(stands.last + 1):
        layer = carried_from(stands, begins)
        found.append(layer)
        begins = [behind for stand in layer for _, behind in stands.by_step(stand)]
    return found


def carried_from(stands, begins):
    """The list of the stands, and of all to which carries lead from them."""
    seen = {}
    rest = list(begins)
    while rest:
        stand = rest.pop()
        if stand not in seen:
            seen[stand] = True
            rest.extend(list(stands.by_carry(stand)))
    return list(seen)


def height_by_step(stands, found, stand):
    """The least height to which the step of the stand leads, or None."""
    if stand[0] == stands.last:
        return 0
    heights_ahead = [found[behind] for _, behind in stands.by_step(stand)]
    return min([height for height in heights_ahead if height is not None], default=None)


def lowered(stands, first):
    """The heights of stands of one place when carries, each of which costs 1, may be done ahead of the step."""
    into = {stand: [] for stand in first}
    waiting = {}
    for stand, height in first.items():
        for behind in stands.by_carry(stand):
            into[behind].append(stand)
        if height is not None:
            waiting.setdefault(height, []).append(stand)
    found = {stand: None for stand in first}
    height = 0
    while waiting:
        row = waiting.pop(height, [])
        for stand in row:
            if found[stand] is None:
                found[stand] = height
                waiting.setdefault(height + 1, []).extend(into[stand])
        height += 1
    return found


def cheapest(program, machine):
    """The least number of carries of a right code, and such a code; None if no code is right."""
    check_straight(program, machine)
    stands = Stands(program, machine)
    found = heights_of(stands)
    number = found[stands.begin]
    if number is None:
        return None
    return number, code_down(program, machine, stands, found)


def code_down(program, machine, stands, found):
    """The code of a way from the first stand down to the end."""
    rooms = {}
    belts = {}
    carries = {}
    stand = stands.begin
    while stand[0] != stands.last:
        place = stand[0]
        step = program.steps[place]
        steps = [pair for pair in stands.by_step(stand) if found[pair[1]] == found[stand]]
        if steps:
            there = rooms_of(stand[1])
            if reads_of(step):
                rooms[place] = tuple([there[name] for name in reads_of(step)])
            belt, stand = steps[0]
            if step[0] == "make":
                belts[place] = belt
        else:
            carried = stands.by_carry(stand)
            stand = [behind for behind in carried if found[behind] is not None and found[behind] < found[stand]][0]
            way = (place - 1, 0)
            carries[way] = carries.get(way, ()) + (carried[stand],)
    return Code(program, machine, rooms, belts, carries)


def is_floor(program, machine, least, thing):
    """Whether the thing is a floor that shows that at least so many carries are needed, or that none will do."""
    check_straight(program, machine)
    stands = Stands(program, machine)
    if not isinstance(thing, dict):
        return False
    if not all([stands.is_stand(key) and is_height(thing[key]) for key in thing]):
        return False
    if not has_all_stands(stands, thing) or not all([is_kept(stands, thing, stand) for stand in thing]):
        return False
    return not is_less(thing[stands.begin], least)


def is_height(thing):
    return thing is None or (is_integer(thing) and thing >= 0)


def has_all_stands(stands, thing):
    """Whether all stands that come from the first one are keys."""
    seen = {}
    rest = [stands.begin]
    while rest:
        stand = rest.pop()
        if stand not in thing:
            return False
        if stand not in seen:
            seen[stand] = True
            rest.extend(stands.ahead(stand))
    return True


def is_kept(stands, thing, stand):
    """Whether no step and no carry leads from the stand to a lower key than a floor has."""
    height = thing[stand]
    if stand[0] == stands.last and height != 0:
        return False
    if any([behind in thing and is_less(thing[behind], height) for _, behind in stands.by_step(stand)]):
        return False
    return not any([behind in thing and is_less(raised(thing[behind]), height) for behind in stands.by_carry(stand)])


def raised(height):
    return None if height is None else height + 1


def is_less(one, other):
    """Whether a height is less than another one; None is more than every integer."""
    return one is not None and (other is None or one < other)
