"""Unrolled programs: the places of a program several times, where one time is not enough."""

from fullbelts.errors import NotStrong
from fullbelts.kinds import is_number, is_tuple
from fullbelts.makers import seated_code
from fullbelts.pieces import check_size, full_names, heirs_on
from fullbelts.programs import Program, goals_of, unbounded, with_goals
from fullbelts.rounds import fillings, renamed
from fullbelts.turns import all_turns, turns_of


def is_unrolling(program, thing):
    """Whether the thing is an unrolling of the program."""
    if not is_tuple(thing, 2, 2) or not isinstance(thing[0], Program):
        return False
    steps = thing[0].steps
    origins = thing[1]
    if not is_tuple(origins, len(steps), len(steps)):
        return False
    if not all([is_number(origin, len(program.steps)) for origin in origins]) or origins[0] != 0:
        return False
    return all([is_unrolled(step, program.steps[origin], origins) for step, origin in zip(steps, origins)])


def is_unrolled(step, first, origins):
    """Whether a step is the first one when its goals are replaced by their origins."""
    return with_goals(step, [origins[goal] for goal in goals_of(step)]) == first


def copies(program, machine, number):
    """The least number of unlike tuples of rounds to which the renamings of the piece lead one of them."""
    check_size(program, machine)
    turns = turns_of(program, number)
    if not is_strong(turns.tree):
        raise NotStrong()
    return len(least_orbit(turns, machine.belts))


def is_strong(tree):
    """Whether full ways, gone forth, lead from each place of the tree's piece to each other one."""
    forth = {place: [] for place in tree.rows}
    back = {place: [] for place in tree.rows}
    for triple in tree.links():
        end = tree.end(triple)
        forth[triple[0]].append(end)
        back[end].append(triple[0])
    return leads_to_all(forth, tree.first) and leads_to_all(back, tree.first)


def leads_to_all(ahead, first):
    found = {}
    rest = [first]
    while rest:
        place = rest.pop()
        if place not in found:
            found[place] = True
            rest.extend(ahead[place])
    return len(found) == len(ahead)


def plain_rounds(rounds, become):
    """The rounds when names are replaced by what they become, each turned so that its least name is first."""
    rows = [renamed(row, become) for row in rounds]
    cuts = [row.index(min(row)) for row in rows]
    return tuple([row[cut:] + row[:cut] for row, cut in zip(rows, cuts)])


def least_orbit(turns, lengths):
    """The first of the shortest lists of all tuples of rounds to which the renamings of a piece lead one of them."""
    best = None
    seen = {}
    for rounds in fillings(turns.tree.names, lengths, []):
        if rounds not in seen:
            found = orbit(rounds, turns.turns)
            for other in found:
                seen[other] = True
            if best is None or len(found) < len(best):
                best = found
    return best


def orbit(rounds, turns):
    """All tuples of rounds to which the turns lead these; none need be done back, as turns have an end."""
    found = {rounds: True}
    rest = [rounds]
    while rest:
        at = rest.pop()
        for turn in turns:
            behind = plain_rounds(at, turn)
            if behind not in found:
                found[behind] = True
                rest.append(behind)
    return list(found)


def unrolled(program, machine):
    """An unrolling of the program, its origins, and a right code for it and the machine."""
    check_size(program, machine)
    ahead = copies_ahead(program, machine)
    found = sorted(ahead)
    numbers = {copied: number for number, copied in enumerate(found)}
    steps = []
    for copied in found:
        goals = [numbers[goal] for goal in ahead[copied]]
        steps.append(with_goals(program.steps[copied[0]], goals))
    other = unbounded(tuple(steps))
    seated = {numbers[copied]: copied[1] for copied in found if copied[1]}
    return other, tuple([copied[0] for copied in found]), seated_code(other, machine, seated)


def copies_ahead(program, machine):
    """The dict from all copies of places to the list of the copies that are their goals.

    A copy is told by its origin and the rounds that stand there, none at a
    place that is not full.
    """
    entries = entries_of(program, machine)
    full = full_names(program)
    ahead = {}
    rest = [(0, ())]
    while rest:
        copied = rest.pop()
        if copied not in ahead:
            goals = goals_of(program.steps[copied[0]])
            ahead[copied] = [next_copy(program, full, entries, copied, goal) for goal in goals]
            rest.extend(ahead[copied])
    return ahead


def entries_of(program, machine):
    """For each full place rounds of a shortest list; there it is come to from places that are not full."""
    entries = {}
    for turns in all_turns(program):
        tree = turns.tree
        rounds = least_orbit(turns, machine.belts)[0]
        for place in tree.rows:
            entries[place] = plain_rounds(rounds, dict(zip(tree.names, tree.rows[place])))
    return entries


def next_copy(program, full, entries, copied, goal):
    """The copy of the goal to which the way from a copy leads."""
    place, rounds = copied
    if goal not in full:
        return (goal, ())
    if place not in full:
        return (goal, entries[goal])
    return (goal, plain_rounds(rounds, heirs_on(program.steps[place], full[place], full[goal])))
