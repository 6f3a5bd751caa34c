"""What all rings of a piece do to its names."""

from fullbelts.errors import NoNumber
from fullbelts.kinds import is_number
from fullbelts.pieces import trees


def spread(names, turns):
    """All that the names become by turns that are done one behind another.

    A dict to (what they were ahead of the last turn, the number of this turn),
    None for the names themselves.
    """
    came = {names: None}
    found = [names]
    done = 0
    while done < len(found):
        row = found[done]
        done += 1
        for number, turn in enumerate(turns):
            behind = tuple([turn[name] for name in row])
            if behind not in came:
                came[behind] = (row, number)
                found.append(behind)
    return came


class Turns:
    """The renamings of all rings of the first place of a tree's piece.

    turns has the dicts of just so many of them that they make all others; no
    one of them is made by those ahead of it.
    """

    def __init__(self, tree):
        self.tree = tree
        self.turns = []
        self._links = []
        self._came = {tree.names: None}
        # All rings are made of those that leave the tree once. Turns that have
        # an end make their own undoing, so that none need be done back.
        for triple in tree.links():
            row = tree.turned(triple)
            if row not in self._came:
                self.turns.append(dict(zip(tree.names, row)))
                self._links.append(triple)
                self._came = spread(tree.names, self.turns)

    def renamings(self):
        """The ascending list of the renamings, each as what the names become."""
        return sorted(self._came)

    def ring(self, row):
        """A ring on which the names become these, or None."""
        if row not in self._came:
            return None
        numbers = []
        at = row
        while self._came[at] is not None:
            at, number = self._came[at]
            numbers.append(number)
        rings = [self.tree.ring(self._links[number]) for number in numbers[::-1]]
        return tuple([triple for ring in rings for triple in ring])


def all_turns(program):
    """The list of the turns of each piece."""
    return [Turns(tree) for tree in trees(program)]


def turns_of(program, number):
    """The turns of the piece with this number."""
    found = trees(program)
    if not is_number(number, len(found)):
        raise NoNumber()
    return Turns(found[number])
