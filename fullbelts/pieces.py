"""Full places and ways, the heirs of their names, and the pieces that hang together."""

from fullbelts.errors import NotFull, OtherSize
from fullbelts.programs import goals_of, made_by
from fullbelts.wants import need, wanted
from fullbelts.webs import goal, reached


def check_size(program, machine):
    if machine.size != need(program):
        raise OtherSize()


def full_names(program):
    """The dict from the full places, ascending, to the names that are wanted there."""
    wants = wanted(program)
    most = need(program)
    return {place: wants[place] for place in reached(program) if len(wants[place]) == most}


def heirs_on(step, names, names_ahead):
    """The dict from the names to their heirs, for a full way from the place of the step."""
    made = made_by(step)
    # Only the made name may be left though it is wanted ahead: then it is its own heir all the same.
    return {name: name if name in names_ahead else made for name in names}


def heirs(program, way):
    """The dict from the names that are wanted at the place of a full way to their heirs."""
    ahead = goal(program, way)
    full = full_names(program)
    if way[0] not in full or ahead not in full:
        raise NotFull()
    return heirs_on(program.steps[way[0]], full[way[0]], full[ahead])


def onwards(program, full):
    """For each full place the dict of the triples by which a walk may go on from there.

    A triple's value is (the place to which it leads, what the names become on it);
    full is full_names(program).
    """
    found = {place: {} for place in full}
    for place in full:
        step = program.steps[place]
        for number, ahead in enumerate(goals_of(step)):
            if ahead in full:
                become = heirs_on(step, full[place], full[ahead])
                found[place][(place, number, True)] = (ahead, become)
                found[ahead][(place, number, False)] = (place, {become[name]: name for name in become})
    return found


class Tree:
    """Walks from the first place of a piece to each of its places; names are those wanted at the first."""

    def __init__(self, first, names, onward):
        self.first = first
        self.names = names
        # For each place what the names become on the walk to it.
        self.rows = {first: names}
        self._onward = onward
        self._came = {first: None}
        self._grow()

    def _grow(self):
        found = [self.first]
        done = 0
        while done < len(found):
            place = found[done]
            done += 1
            for triple, (end, become) in self._onward[place].items():
                if end not in self.rows:
                    self.rows[end] = tuple([become[name] for name in self.rows[place]])
                    self._came[end] = (place, triple)
                    found.append(end)

    def walk(self, place):
        """The walk from the first place to this one."""
        triples = []
        at = place
        while self._came[at] is not None:
            at, triple = self._came[at]
            triples.append(triple)
        return tuple(triples[::-1])

    def links(self):
        """The list of the full ways of the piece, as triples gone forth."""
        return [triple for place in self.rows for triple in self._onward[place] if triple[2]]

    def end(self, triple):
        """The place to which the triple leads."""
        return self._onward[triple[0]][triple][0]

    def turned(self, triple):
        """What the names become on the ring of the triple: there, forth, and back to the first place."""
        end, become = self._onward[triple[0]][triple]
        home = dict(zip(self.rows[end], self.names))
        return tuple([home[become[name]] for name in self.rows[triple[0]]])

    def ring(self, triple):
        """The ring of the triple."""
        back = [(place, number, not forth) for place, number, forth in self.walk(self.end(triple))[::-1]]
        return self.walk(triple[0]) + (triple,) + tuple(back)


def trees(program):
    """The list of a tree for each piece, in the order of their first places."""
    full = full_names(program)
    onward = onwards(program, full)
    seen = {}
    found = []
    for place in full:
        if place not in seen:
            tree = Tree(place, full[place], onward)
            seen.update(tree.rows)
            found.append(tree)
    return found


def pieces(program):
    """The list of the ascending lists of full places that hang together."""
    return [sorted(tree.rows) for tree in trees(program)]
