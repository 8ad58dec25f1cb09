"""Readings: how far one must look ahead to tell where the records of an output end."""

from gluedlines.looks import shared_line
from gluedlines.outputs import followers, may_end, written
from gluedlines.ways import example, rest

# Two outputs of the same lines are followed side by side. A step is what both do with one line: the two nodes it
# stands for, the line, and for both whether a record begins with it. A pair is the two nodes of a step.
START = (None, None)


class Pairs:
    """What two outputs of a grammar may do with the same lines; what was found once is kept."""

    def __init__(self, grammar):
        self._grammar = grammar
        self._lines = {}
        self._steps = {}

    def steps_behind(self, pair):
        """All steps that may follow behind this pair."""
        if pair not in self._steps:
            one, other = [followers(self._grammar, k) for k in pair]
            self._steps[pair] = [(k, mate, self._shared(k, mate), starts, mate_starts)
                                 for k, starts in one for mate, mate_starts in other
                                 if self._shared(k, mate) is not None]
        return self._steps[pair]

    def _shared(self, k, mate):
        both = (min(k, mate), max(k, mate))
        if both not in self._lines:
            self._lines[both] = shared_line(self._grammar[k], self._grammar[mate])
        return self._lines[both]


def ahead_needed(grammar):
    """The least number of lines that a right reader looks ahead, or None."""
    # More steps than there are pairs: some pair stands there twice, and so as often as one likes. This is so, too,
    # where both outputs may end alike: behind that they can go on with the same records.
    most = len(grammar) * len(grammar) + 1
    layers = _layers(grammar, most)
    return None if len(layers) > most else len(layers)


def two_outputs(grammar, ahead):
    """Two outputs that show that looking so far ahead is not enough, or None."""
    layers = _layers(grammar, ahead)
    if len(layers) <= ahead:
        return None
    pair = list(layers[ahead])[0]
    trail = layers[ahead][pair]
    one, other = _rests(grammar, pair, ahead)
    return _told(trail, one, other, len(trail) - ahead)


def two_readings(grammar):
    """An output with two cuts, with the fewest lines, and the two cuts; or None."""
    pairs = Pairs(grammar)
    queue = [(START, False, [])]
    seen = {}
    at = 0
    while at < len(queue):
        pair, apart, trail = queue[at]
        at += 1
        for step in pairs.steps_behind(pair):
            after = ((step[0], step[1]), apart or step[3] != step[4])
            if after not in seen:
                seen[after] = True
                queue.append((*after, [*trail, step]))
                if after[1] and _may_both_end(grammar, after[0]):
                    told = _told([*trail, step], [], [], 0)
                    return told[0], _cut(told[1]), _cut(told[3])
    return None


def _layers(grammar, most):
    """The pairs that may stand so many lines behind a place at which a record of the first output alone ends.

    Returns a list of dicts from pairs to the steps up to there: the first is for
    no line behind the place, the last for as many as most, if there are such pairs.
    """
    pairs = Pairs(grammar)
    layer = {pair: trail for pair, trail in _reached(pairs).items()
             if pair[0] in grammar.lasts() and len(grammar.nexts(pair[1])) > 0}
    layers = []
    while len(layer) > 0:
        layers.append(layer)
        if len(layers) > most:
            break
        # The first line behind the place begins a record of the first output, and none of the second one.
        ahead = {}
        for pair, trail in layer.items():
            for step in pairs.steps_behind(pair):
                after = (step[0], step[1])
                if after not in ahead and (len(layers) > 1 or (step[3] and not step[4])):
                    ahead[after] = [*trail, step]
        layer = ahead
    return layers


def _reached(pairs):
    """All pairs to which steps lead from the start, each with shortest steps."""
    found = {}
    queue = [(START, [])]
    at = 0
    while at < len(queue):
        pair, trail = queue[at]
        at += 1
        for step in pairs.steps_behind(pair):
            after = (step[0], step[1])
            if after not in found:
                found[after] = [*trail, step]
                queue.append((after, found[after]))
    return found


def _may_both_end(grammar, pair):
    return may_end(grammar, pair[:1]) and may_end(grammar, pair[1:])


def _rests(grammar, pair, ahead):
    """For both outputs steps (node, line, whether a record begins there) that end them behind this pair."""
    k, other = pair
    if ahead > 0:
        return _steps_of(grammar, rest(grammar, k)[1:], False), _steps_of(grammar, rest(grammar, other)[1:], False)
    # The place is the one behind this pair: both outputs need a line behind it.
    return (_steps_of(grammar, rest(grammar, grammar.firsts()[0]), True),
            _steps_of(grammar, rest(grammar, grammar.nexts(other)[0]), False))


def _steps_of(grammar, nodes, starts):
    return [(k, line, starts and at == 0) for at, (k, line) in enumerate(zip(nodes, example(grammar, nodes)))]


def _told(trail, one, other, place):
    """Both outputs along these common steps and their own steps behind them."""
    lines, ways = written([(k, line, starts) for k, _, line, starts, _ in trail] + one)
    other_lines, other_ways = written([(k, line, starts) for _, k, line, _, starts in trail] + other)
    return lines, ways, other_lines, other_ways, place


def _cut(ways):
    return tuple([len(way) for way in ways])
