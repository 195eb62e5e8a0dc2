"""Nets of mergers: numbers that take their time, and calls that can be undone."""

from leastheads.errors import (
    ClosedSource, InvalidNumber, NothingOnTheWay, NothingToUndo, UnknownLane, UnknownMerger,
    UnknownSource, UsedNumber,
)
from leastheads.opens import merge_waiting
from leastheads.plans import count_sources, inputs_of
from leastheads.queues import is_index, is_integer

# Merger 0 has no lane. What would enter it is kept all the same: it is the result.
LAST = ("merger", 0)


class Way:
    """What has entered one lane, in order, and how far it has come."""

    def __init__(self):
        self.numbers = []
        self.arrived = 0
        self.passed = 0
        self.is_closed = False
        self.has_ended = False

    def coming(self):
        """Return the numbers that are on their way."""
        return self.numbers[self.arrived:]

    def held(self):
        """Return the numbers that have arrived and were not passed on."""
        return self.numbers[self.passed:self.arrived]

    def is_closing(self):
        """Return whether the closing mark is on its way."""
        return self.is_closed and not self.has_ended

    def is_moving(self):
        """Return whether anything is on its way."""
        return self.arrived < len(self.numbers) or self.is_closing()

    def is_exhausted(self):
        """Return whether the merger must wait for what comes."""
        return self.passed == self.arrived and not self.has_ended

    def let_arrive(self):
        """Let the first thing that is on its way arrive."""
        if self.arrived < len(self.numbers):
            self.arrived += 1
        else:
            self.has_ended = True

    def state(self):
        """Return all that `return_to` needs."""
        return (len(self.numbers), self.arrived, self.passed, self.is_closed, self.has_ended)

    def return_to(self, state):
        """Become what this was when `state` returned the state."""
        many, self.arrived, self.passed, self.is_closed, self.has_ended = state
        # Numbers enter at the end only, so those of that time are still the first.
        self.numbers = self.numbers[:many]


class Net:
    """A net of mergers."""

    def __init__(self, plan):
        self._inputs = inputs_of(plan)
        self._many_sources = count_sources(plan)
        self._targets = {lane: merger for merger, lanes in enumerate(self._inputs) for lane in lanes}
        sources = [("source", source) for source in range(self._many_sources)]
        mergers = [("merger", merger) for merger in range(len(self._inputs))]
        self._ways = {lane: Way() for lane in sources + mergers}
        self._earlier = []

    def put_number(self, source, number):
        """Put a number on a source."""
        way = self._way_from(source)
        if not is_integer(number):
            raise InvalidNumber("not an integer")
        if way.is_closed:
            raise ClosedSource("the source was closed")
        if any([number in queue for queue in self._family()]):
            raise UsedNumber("the number was put before")
        self._remember()
        way.numbers.append(number)

    def close_source(self, source):
        """Close a source."""
        way = self._way_from(source)
        if way.is_closed:
            raise ClosedSource("the source was closed")
        self._remember()
        way.is_closed = True

    def arrive_from(self, lane):
        """Let the first thing in the lane arrive; return what is appended to the result."""
        if not self._is_lane(lane):
            raise UnknownLane("not a lane of the net")
        if not self._ways[lane].is_moving():
            raise NothingOnTheWay("nothing is on its way in the lane")
        self._remember()
        before = len(self._ways[LAST].numbers)
        self._let_arrive(lane)
        return self._ways[LAST].numbers[before:]

    def settle_all(self):
        """Let all things arrive; return what is appended to the result."""
        self._remember()
        before = len(self._ways[LAST].numbers)
        moving = self._moving_lanes()
        while len(moving) > 0:
            for lane in moving:
                self._let_arrive(lane)
            moving = self._moving_lanes()
        return self._ways[LAST].numbers[before:]

    def result_so_far(self):
        """Return the result of the net."""
        return list(self._ways[LAST].numbers)

    def on_the_way(self):
        """Return (lane, numbers, whether a closing mark follows) for the lanes in use."""
        rows = []
        for lane in self._moving_lanes():
            way = self._ways[lane]
            rows.append((lane, way.coming(), way.is_closing()))
        return rows

    def waits_for(self, merger):
        """Return the exhausted inputs of the merger."""
        return [lane for lane in self._lanes_to(merger) if self._ways[lane].is_exhausted()]

    def held_at(self, merger):
        """Return the ascending numbers that the merger has and did not pass on."""
        return sorted([number for lane in self._lanes_to(merger) for number in self._ways[lane].held()])

    def is_finished(self):
        """Return whether nothing more can be appended to the result."""
        return self._ways[LAST].is_closed

    def family_so_far(self):
        """Return the family of all numbers that were put, and the sources that are not closed."""
        sources = range(self._many_sources)
        unclosed = [source for source in sources if not self._ways[("source", source)].is_closed]
        return (self._family(), unclosed)

    def undo_last(self):
        """Undo the last call that changed the net and was not undone."""
        if len(self._earlier) == 0:
            raise NothingToUndo("no call is left that could be undone")
        states = self._earlier.pop()
        for lane, way in self._ways.items():
            way.return_to(states[lane])

    def _remember(self):
        """Keep what the net is now, for `undo_last`."""
        self._earlier.append({lane: self._ways[lane].state() for lane in self._ways})

    def _way_from(self, source):
        """Return the way from a source; raise UnknownSource for any value that is none."""
        if not is_index(source, self._many_sources):
            raise UnknownSource("not a source of the net")
        return self._ways[("source", source)]

    def _lanes_to(self, merger):
        """Return the inputs of a merger; raise UnknownMerger for any value that is none."""
        if not is_index(merger, len(self._inputs)):
            raise UnknownMerger("not a merger of the net")
        return self._inputs[merger]

    def _is_lane(self, value):
        """Return whether any value is a lane of the net."""
        if not isinstance(value, tuple) or len(value) != 2:
            return False
        kind, index = value
        return isinstance(kind, str) and is_integer(index) and (kind, index) in self._targets

    def _family(self):
        """Return the family of all numbers that were put."""
        return [list(self._ways[("source", source)].numbers) for source in range(self._many_sources)]

    def _moving_lanes(self):
        """Return the lanes in which things are on their way, sources before mergers."""
        return [lane for lane in self._ways if lane in self._targets and self._ways[lane].is_moving()]

    def _let_arrive(self, lane):
        """Let the first thing in the lane arrive, and its merger pass on what it can."""
        self._ways[lane].let_arrive()
        merger = self._targets[lane]
        ways = [self._ways[one] for one in self._inputs[merger]]
        waiting = [index for index, way in enumerate(ways) if not way.has_ended]
        passed, left = merge_waiting([way.held() for way in ways], waiting)
        for way, rest in zip(ways, left):
            way.passed = way.arrived - len(rest)
        out = self._ways[("merger", merger)]
        out.numbers.extend(passed)
        # With nothing to wait for, the merger has passed on all that it had.
        if len(waiting) == 0:
            out.is_closed = True
