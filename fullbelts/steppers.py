"""Codes gone step by step: what each reading shall find, and what it finds."""

from fullbelts.codes import MADE, flow_on, shaped
from fullbelts.machines import room_number
from fullbelts.programs import made_by
from fullbelts.runs import Run


class Stepper:
    """A code that goes with a run from place 0 on."""

    def __init__(self, code):
        self.place = 0
        self._code = code
        self._rooms = code.rooms
        self._put_in = code.belts
        self._carried = code.carries
        # Filled as the ways are gone; it tells the same for each copy.
        self._flow = {}
        self._run = Run(code.program)
        self._items = (None,) * code.machine.size
        # What the rooms held ahead of each step gone, so that back can return it.
        self._trail = []
        self._wrong = []

    def route(self):
        """The route that was gone."""
        return self._run.route()

    def holding(self):
        """What is in the rooms: results by their numbers, and None."""
        return shaped(self._code.machine, self._items)

    def wrong(self):
        """The list of the pairs (step, index) of the readings that were not right."""
        return list(self._wrong)

    def go(self, number):
        """Do the step of the place and go to its goal; the list of a pair (due, found) for each reading."""
        place = self.place
        due = self._run.go(number)
        pairs = list(zip(due, self._found(place)))
        step = len(self._trail)
        self._wrong.extend([(step, index) for index, (result, there) in enumerate(pairs) if result != there])
        self._trail.append(self._items)
        self._items = self._behind(place, number)
        self.place = self._run.place
        return pairs

    def _found(self, place):
        """What is in the rooms of the readings of the place, in order."""
        lengths = self._code.machine.belts
        return [self._items[room_number(lengths, room)] for room in self._rooms.get(place, ())]

    def _behind(self, place, number):
        """What the rooms hold behind the way, which the run has gone already."""
        way = (place, number)
        if way not in self._flow:
            carries = self._carried.get(way, ())
            self._flow[way] = flow_on(self._code.machine, self._put_in.get(place), carries)
        made = self._run.has().get(made_by(self._code.program.steps[place]))
        return tuple([made if source == MADE else self._items[source] for source in self._flow[way]])

    def back(self, many):
        """Take back that many steps."""
        self._run.back(many)
        self.place = self._run.place
        left = len(self._trail) - many
        self._items = self._trail[left]
        del self._trail[left:]
        while self._wrong and self._wrong[-1][0] >= left:
            self._wrong.pop()

    def copy(self):
        """Another stepper that stands where this one does."""
        other = Stepper(self._code)
        other.place = self.place
        other._flow = self._flow
        other._run = self._run.copy()
        other._items = self._items
        other._trail = list(self._trail)
        other._wrong = list(self._wrong)
        return other

    def trying(self, action):
        """What the action returns when called with the stepper, which then is as it was."""
        # The action may take back steps gone before it, so that undoing its
        # own steps would not do.
        kept = self.copy()
        try:
            return action(self)
        finally:
            self.place = kept.place
            self._run = kept._run
            self._items = kept._items
            self._trail = kept._trail
            self._wrong = kept._wrong
