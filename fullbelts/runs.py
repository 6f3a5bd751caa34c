"""Runs of a program, step by step, forth and back."""

from fullbelts.errors import NoNumber, NoWay, Over
from fullbelts.kinds import is_integer, is_number
from fullbelts.programs import goals_of, made_by, reads_of


class Run:
    """A run that begins at place 0; its results are numbered as they are made."""

    def __init__(self, program):
        self.place = 0
        self._program = program
        # One entry for each step gone: its place, the number of its goal, and
        # the result that its make took from the name, so that back can return it.
        self._trail = []
        self._has = {}
        self._told = []
        self._made = 0

    def has(self):
        """The dict from the names that have results to their numbers."""
        return dict(self._has)

    def route(self):
        """The route that was gone."""
        return tuple([entry[1] for entry in self._trail])

    def told(self):
        """The list of the results that tells read."""
        return list(self._told)

    def go(self, number):
        """Do the step of the place and go to its goal; the tuple of the results that were read."""
        step = self._program.steps[self.place]
        ahead = goals_of(step)
        if not ahead:
            raise Over()
        if not is_number(number, len(ahead)):
            raise NoWay()
        found = tuple([self._has[name] for name in reads_of(step)])
        self._trail.append((self.place, number, self._has.get(made_by(step))))
        if step[0] == "make":
            self._has[step[1]] = self._made
            self._made += 1
        if step[0] == "tell":
            self._told.append(found[0])
        self.place = ahead[number]
        return found

    def back(self, many):
        """Take back that many steps."""
        if not is_integer(many) or not 1 <= many <= len(self._trail):
            raise NoNumber()
        for _ in range(many):
            self._take_back()

    def _take_back(self):
        place, _, elder = self._trail.pop()
        step = self._program.steps[place]
        self.place = place
        if step[0] == "make":
            self._made -= 1
            self._has[step[1]] = elder
            if elder is None:
                del self._has[step[1]]
        if step[0] == "tell":
            self._told.pop()

    def copy(self):
        """Another run that stands where this one does."""
        other = Run(self._program)
        other.place = self.place
        other._trail = list(self._trail)
        other._has = dict(self._has)
        other._told = list(self._told)
        other._made = self._made
        return other

    def trying(self, action):
        """What the action returns when called with the run, which then is as it was."""
        # The action may take back steps gone before it, so that undoing its
        # own steps would not do.
        kept = self.copy()
        try:
            return action(self)
        finally:
            self.place = kept.place
            self._trail = kept._trail
            self._has = kept._has
            self._told = kept._told
            self._made = kept._made
