"""Twins: whether two rules get the same records from all lists of lines, or from all outputs of a grammar."""

from gluedlines.faces import face_by
from gluedlines.gluers import taken
from gluedlines.looks import looks
from gluedlines.outputs import followers, written
from gluedlines.patterns import Form
from gluedlines.ways import example, rest

# The gluers of both rules are followed side by side. A pair is the numbers of lines of the two open records, as
# `taken` tells them. The records are the same exactly if both take each line in the same way.
START = (0, 0)


def parted(rule, other):
    """A list with the fewest lines from which two rules do not get the same, or None."""
    table = _twin_faces(Form(Form.ANY), rule, other)
    seen = {START: True}
    queue = [(START, [])]
    at = 0
    while at < len(queue):
        pair, lines = queue[at]
        at += 1
        for both, line in table:
            after = _pair_behind(rule, other, pair, both)
            if after is None:
                return [*lines, line]
            if after not in seen:
                seen[after] = True
                queue.append((after, [*lines, line]))
    return None


def parted_on(grammar, rule, other):
    """An output of the grammar from which two rules do not get the same, as (lines, ways), or None."""
    tables = [_twin_faces(grammar[k], rule, other) for k in range(len(grammar))]
    seen = {}
    queue = [(None, START, [])]
    at = 0
    while at < len(queue):
        before, pair, trail = queue[at]
        at += 1
        for k, starts in followers(grammar, before):
            for both, line in tables[k]:
                after = _pair_behind(rule, other, pair, both)
                steps = [*trail, (k, line, starts)]
                if after is None:
                    nodes = rest(grammar, k)[1:]
                    return written(steps + [(n, end, False) for n, end in zip(nodes, example(grammar, nodes))])
                if (k, after) not in seen:
                    seen[(k, after)] = True
                    queue.append((k, after, steps))
    return None


def _twin_faces(pattern, rule, other):
    """The faces for both rules of the lines that fit the pattern: tuples ((face, other face), least such line)."""
    marks = rule.begins() + rule.ends()
    found = {}
    for look, line in looks(pattern, marks + other.begins() + other.ends()):
        own = [k for k in look if k < len(marks)]
        others = [k - len(marks) for k in look if k >= len(marks)]
        both = (face_by(rule, own), face_by(other, others))
        found.setdefault(both, line)
    return list(found.items())


def _pair_behind(rule, other, pair, both):
    """The pair behind a line of these two faces, or None if the rules take it in different ways."""
    how, count = taken(rule, pair[0], both[0])
    other_how, other_count = taken(other, pair[1], both[1])
    return (count, other_count) if how == other_how else None
