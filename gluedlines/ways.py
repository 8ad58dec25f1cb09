"""Ways through a grammar: the lists of nodes along which records are written."""

from gluedlines.looks import least_line


def ways(grammar, most):
    """All ways of at most so many nodes, shorter ones first, those of one length in ascending order."""
    level = []
    for many in range(most):
        if many == 0:
            level = [(k,) for k in grammar.firsts()]
        else:
            level = [(*way, k) for way in level for k in grammar.nexts(way[-1])]
        for way in level:
            if way[-1] in grammar.lasts():
                yield way


def is_way(grammar, way):
    """Whether a list or tuple of integers is a way."""
    if len(way) == 0 or any([not 0 <= k < len(grammar) for k in way]):
        return False
    if way[0] not in grammar.firsts() or way[-1] not in grammar.lasts():
        return False
    return all([after in grammar.nexts(k) for k, after in zip(way, way[1:])])


def lead(grammar, k):
    """A list of nodes from a first node to this one, with as few nodes as possible."""
    return _shortest(grammar, grammar.firsts(), [k])


def rest(grammar, k):
    """A list of nodes from this one to a last node, with as few nodes as possible."""
    return _shortest(grammar, [k], grammar.lasts())


def example(grammar, way):
    """For each node of the way the least line that fits its pattern."""
    least = {k: least_line(grammar[k]) for k in sorted(set(way))}
    return [least[k] for k in way]


def example_with(grammar, way, at, line):
    """A record along the way that has this line at this index."""
    return [*example(grammar, way[:at]), line, *example(grammar, way[at + 1:])]


def counted(grammar, most):
    """All tuples (node, lines of the record so far), each with a shortest list of nodes that leads to it.

    Records are followed up to so many lines. If this is None, the number of lines is always told as 1.
    """
    found = {(k, 1): [k] for k in grammar.firsts()}
    queue = list(found)
    at = 0
    while at < len(queue):
        k, count = queue[at]
        at += 1
        if count != most:
            for after in grammar.nexts(k):
                place = (after, 1 if most is None else count + 1)
                if place not in found:
                    found[place] = [*found[(k, count)], after]
                    queue.append(place)
    return found


def _shortest(grammar, starts, goals):
    """A shortest list of nodes from a start to a goal, each a next of the one before."""
    # There always is one: every node of a grammar stands on a way.
    paths = [[k] for k in starts]
    seen = {k: True for k in starts}
    at = 0
    while paths[at][-1] not in goals:
        for after in grammar.nexts(paths[at][-1]):
            if after not in seen:
                seen[after] = True
                paths.append(paths[at] + [after])
        at += 1
    return paths[at]
