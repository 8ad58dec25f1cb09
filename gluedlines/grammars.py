"""Grammars: which lines make a record, and in which order."""

from gluedlines.errors import NoGrammar
from gluedlines.looks import least_line

MOST_NODES = 8


class Grammar:
    """Nodes with patterns and nexts, some of them first nodes, some last ones."""

    def __init__(self, nodes, firsts, lasts):
        _check_numbers(nodes, firsts, lasts)
        _check_ways([nexts for _, nexts in nodes], firsts, lasts)
        _check_lines([pattern for pattern, _ in nodes])
        self._patterns = [pattern for pattern, _ in nodes]
        self._nexts = [sorted(nexts) for _, nexts in nodes]
        self._firsts = sorted(firsts)
        self._lasts = sorted(lasts)

    def nexts(self, k):
        return list(self._nexts[k])

    def firsts(self):
        return list(self._firsts)

    def lasts(self):
        return list(self._lasts)

    def longest(self):
        level = self.firsts()
        for many in range(1, len(self._patterns) + 1):
            level = sorted({after for k in level for after in self._nexts[k]})
            if len(level) == 0:
                return many
        # More nodes in a row than there are: one of them stands there twice, and so on a ring.
        return None

    def __len__(self):
        return len(self._patterns)

    def __getitem__(self, at):
        return self._patterns[at]

    def __iter__(self):
        raise TypeError("a grammar is not iterated over")

    def __eq__(self, other):
        return (isinstance(other, Grammar) and self._patterns == other._patterns and self._nexts == other._nexts
                and self._firsts == other._firsts and self._lasts == other._lasts)

    def __or__(self, other):
        rise = len(self._patterns)
        nodes = [(self[k], self.nexts(k)) for k in range(rise)]
        behind = [(other[k], _raised(other.nexts(k), rise)) for k in range(len(other))]
        firsts = self.firsts() + _raised(other.firsts(), rise)
        lasts = self.lasts() + _raised(other.lasts(), rise)
        return Grammar(nodes + behind, firsts, lasts)


def _raised(numbers, rise):
    return [k + rise for k in numbers]


def _check_numbers(nodes, firsts, lasts):
    """Raise NoGrammar if there are too few or too many nodes, or a number that may not stand where it does."""
    if len(nodes) == 0 or len(nodes) > MOST_NODES:
        raise NoGrammar("nodes", None)
    for k, (_, nexts) in enumerate(nodes):
        if not _are_nodes(nexts, len(nodes)):
            raise NoGrammar("node", k)
    if len(firsts) == 0 or not _are_nodes(firsts, len(nodes)):
        raise NoGrammar("firsts", None)
    if len(lasts) == 0 or not _are_nodes(lasts, len(nodes)):
        raise NoGrammar("lasts", None)


def _are_nodes(numbers, many):
    """Whether each number is one of so many nodes, and none stands there twice."""
    return len(set(numbers)) == len(numbers) and all([0 <= k < many for k in numbers])


def _check_ways(nexts, firsts, lasts):
    """Raise NoGrammar if a node stands on no way."""
    backs = [_before(nexts, after) for after in range(len(nexts))]
    begun = _reached(firsts, nexts)
    ended = _reached(lasts, backs)
    for k in range(len(nexts)):
        if k not in begun or k not in ended:
            raise NoGrammar("reach", k)


def _before(nexts, after):
    """The nodes of which this one is a next."""
    return [k for k in range(len(nexts)) if after in nexts[k]]


def _reached(starts, nexts):
    """The starts, and all nodes that nexts lead to from there."""
    found = list(starts)
    at = 0
    while at < len(found):
        for after in nexts[found[at]]:
            if after not in found:
                found.append(after)
        at += 1
    return found


def _check_lines(patterns):
    """Raise NoGrammar if no line fits one of the patterns."""
    for k, pattern in enumerate(patterns):
        if least_line(pattern) is None:
            raise NoGrammar("line", k)
