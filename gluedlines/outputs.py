"""Outputs of a grammar: records one behind the other."""

from gluedlines.ways import is_way


def is_record(grammar, lines):
    """Whether the list of lines is a record."""
    return len(lines) in _lengths(grammar, lines)


def is_output(grammar, lines):
    """Whether the list of lines is an output."""
    nodes = []
    ended = True
    for line in lines:
        nodes = followed(grammar, nodes, ended, line)
        ended = may_end(grammar, nodes)
    return ended


def cuts_of(grammar, lines):
    """All cuts of a list of lines, in ascending order of the tuples."""
    lengths = _whole_lengths(grammar, lines)
    cuts = [()]
    while len(cuts) > 0:
        cut = cuts.pop()
        if sum(cut) == len(lines):
            yield cut
        else:
            # The least one is taken next, so it is put on last.
            for many in sorted(lengths[sum(cut)], reverse=True):
                cuts.append((*cut, many))


def follows(grammar, lines, ways):
    """Whether the lines are written along these ways, one behind the other, with none left over."""
    if not all([is_way(grammar, way) for way in ways]):
        return False
    nodes = [k for way in ways for k in way]
    return len(nodes) == len(lines) and all([line in grammar[k] for k, line in zip(nodes, lines)])


def followed(grammar, nodes, ended, line):
    """The nodes that the line may stand for behind a line that stands for one of these."""
    return [k for k in afters(grammar, nodes, ended) if line in grammar[k]]


def afters(grammar, nodes, ended):
    """The nodes that may stand behind one of these; if ended is true, a record may also begin there."""
    found = [after for k in nodes for after in grammar.nexts(k)]
    if ended:
        found.extend(grammar.firsts())
    return sorted(set(found))


def followers(grammar, k):
    """The nodes that may stand behind this one, each with whether a record begins there; None is the start."""
    starting = [(after, True) for after in grammar.firsts()]
    if k is None:
        return starting
    inside = [(after, False) for after in grammar.nexts(k)]
    return inside + starting if k in grammar.lasts() else inside


def may_end(grammar, nodes):
    """Whether one of these nodes is a last one."""
    return any([k in grammar.lasts() for k in nodes])


def places_of(ways):
    """The list of places of each record along these ways."""
    found = []
    at = 0
    for way in ways:
        found.append(list(range(at, at + len(way))))
        at = at + len(way)
    return found


def written(steps):
    """The lines and the ways of steps (node, line, whether a record begins there)."""
    lines = []
    ways = []
    for k, line, starts in steps:
        if starts:
            ways.append([])
        ways[-1].append(k)
        lines.append(line)
    return lines, ways


def _lengths(grammar, lines):
    """All numbers of lines at the beginning of these that are a record."""
    found = []
    nodes = []
    for at, line in enumerate(lines):
        nodes = followed(grammar, nodes, at == 0, line)
        if may_end(grammar, nodes):
            found.append(at + 1)
    return found


def _whole_lengths(grammar, lines):
    """For each place the lengths of the records that begin there and behind which an output is left."""
    whole = {len(lines): []}
    for at in sorted(range(len(lines)), reverse=True):
        found = [many for many in _lengths(grammar, lines[at:]) if at + many in whole]
        if len(found) > 0:
            whole[at] = found
    # The loop of the cuts begins at 0 even if no cut is found there.
    whole.setdefault(0, [])
    return whole
