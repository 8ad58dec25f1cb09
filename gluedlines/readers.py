"""Readers: they look ahead, and get every record of every output."""

from gluedlines.errors import NoOutput, NotEnough
from gluedlines.outputs import afters, followed, may_end
from gluedlines.readings import ahead_needed


class Reader:
    """Reads the lines of an output, and gives out its records as soon as it has looked far enough ahead."""

    def __init__(self, grammar, ahead):
        needed = ahead_needed(grammar)
        if needed is None or needed > ahead:
            raise NotEnough(needed)
        self._grammar = grammar
        self._ahead = ahead
        self._taken = 0
        # The lines that were not given out, and for each the nodes that it may stand for.
        self._lines = []
        self._nodes = []

    def __call__(self, line):
        before = self._nodes[-1] if len(self._nodes) > 0 else []
        nodes = followed(self._grammar, before, self._may_start(before), line)
        if len(nodes) == 0:
            raise NoOutput(self._taken)
        self._taken += 1
        self._lines.append(line)
        self._nodes.append(nodes)
        place = len(self._lines) - self._ahead
        if place < 1 or not self._ends_behind(place):
            return []
        given = self._lines[:place]
        self._lines = self._lines[place:]
        self._nodes = self._nodes[place:]
        return [given]

    def finish(self):
        if len(self._lines) > 0 and not may_end(self._grammar, self._nodes[-1]):
            raise NoOutput(self._taken)
        places = self._places()
        given = [self._lines[low:high] for low, high in zip(places, places[1:])]
        self._taken = 0
        self._lines = []
        self._nodes = []
        return given

    def _may_start(self, nodes):
        """Whether a record may begin behind a line that stands for one of these nodes, or at the start."""
        return len(nodes) == 0 or may_end(self._grammar, nodes)

    def _ends_behind(self, place):
        """Whether a record ends behind the first so many lines: the lines behind them show it."""
        nodes = self._nodes[place - 1]
        if not may_end(self._grammar, nodes):
            return False
        found = self._grammar.firsts()
        for possible in self._nodes[place:]:
            nodes = [k for k in found if k in possible]
            found = afters(self._grammar, nodes, may_end(self._grammar, nodes))
        return len(nodes) > 0

    def _places(self):
        """The places at which records begin or end, if the output ends behind the lines."""
        if len(self._lines) == 0:
            return []
        places = [len(self._lines)]
        k = self._last_of(self._nodes[-1])
        # Any way back will do: all of them part the lines at the same places.
        for at in range(len(self._lines) - 1, 0, -1):
            inside = [before for before in self._nodes[at - 1] if k in self._grammar.nexts(before)]
            if len(inside) > 0:
                k = inside[0]
            else:
                k = self._last_of(self._nodes[at - 1])
                places.append(at)
        return sorted([*places, 0])

    def _last_of(self, nodes):
        return [k for k in nodes if k in self._grammar.lasts()][0]
