"""Rounds of names on belts, and which of them renamings turn."""

from itertools import combinations, permutations
from math import factorial


def are_alike(one, other):
    """Whether two rounds are one another turned."""
    if one[0] not in other:
        return False
    at = other.index(one[0])
    return other[at:] + other[:at] == one


def renamed(row, become):
    """The round when its names are replaced by what they become."""
    return tuple([become[name] for name in row])


def is_turned(row, turn):
    """Whether the round is alike to what it was when a renaming replaces its names."""
    return are_alike(row, renamed(row, turn))


def are_turned(rows, turn):
    """Whether each of the rounds is alike to what it was, belt by belt."""
    return all([is_turned(row, turn) for row in rows])


def rounds_of(names, length):
    """The ascending list of the rounds of so many names of an ascending list, each from its least name on."""
    found = []
    for chosen in combinations(names, length):
        rest = list(chosen[1:])
        found.extend([chosen[:1] + tail for tail in permutations(rest)])
    return sorted(found)


def fillings(names, lengths, turns):
    """The ascending list of the tuples of rounds, each from its least name on, that go with all the turns.

    They have just the names, each once, on belts of these lengths.
    """
    return filled(list(names), lengths, choices_for(list(names), lengths, turns), factorial(len(names)))


def first_filling(names, lengths, turns):
    """The first of the fillings, or None if there are none."""
    found = filled(list(names), lengths, choices_for(list(names), lengths, turns), 1)
    return found[0] if found else None


def choices_for(names, lengths, turns):
    """For each length the rounds that all the turns turn: whether they do hangs on no other belt."""
    found = {}
    for length in lengths:
        if length not in found:
            rows = rounds_of(names, length)
            found[length] = [row for row in rows if all([is_turned(row, turn) for turn in turns])]
    return found


def filled(names, lengths, choices, most):
    """The first tuples, so many at most, of a chosen round for each belt, of the names in the list."""
    if not lengths:
        return [()]
    found = []
    for row in choices[lengths[0]]:
        if len(found) < most and all([name in names for name in row]):
            rest = [name for name in names if name not in row]
            tails = filled(rest, lengths[1:], choices, most - len(found))
            found.extend([(row,) + tail for tail in tails])
    return found
