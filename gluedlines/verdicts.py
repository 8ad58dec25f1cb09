"""Verdicts: whether a rule gets the records of every output of a grammar whole."""

from gluedlines.errors import NotRight
from gluedlines.faces import faces_of_nodes
from gluedlines.outputs import followers, written
from gluedlines.ways import counted, example, rest

PAUSES = ("none", "behind", "any")

# A state is what is known behind a line if all was right so far: the node of the line, the number of lines of its
# record (always 1 if most is None), and whether this record is still open. It is None at the start.


def wrong_output(grammar, rule, pauses="none"):
    """An output with the fewest lines for which the rule is not right, as (lines, ways), or None."""
    if pauses not in PAUSES:
        raise NotRight("pauses")
    return least_wrong(grammar, rule, faces_of_nodes(grammar, rule), pauses)


def least_wrong(grammar, rule, tables, pauses):
    """What wrong_output returns, if these tables are the faces of the nodes."""
    best = None
    for trail, nodes, paused in _failures(grammar, rule, tables, pauses):
        if best is None or len(trail) + len(nodes) < len(best[0]) + len(best[1]):
            best = (trail, nodes, paused)
    if best is None:
        return None
    trail, nodes, paused = best
    lines, ways = written(trail + [(k, line, False) for k, line in zip(nodes, example(grammar, nodes))])
    if paused:
        lines.insert(len(trail), None)
    if pauses == "behind":
        lines = _with_pauses(lines, ways)
    return lines, ways


def is_right(grammar, rule, pauses="none"):
    """Whether the rule is right for all outputs of the grammar with such pauses."""
    return wrong_output(grammar, rule, pauses) is None


def right_faces(grammar, rule):
    """The faces of the nodes, or NotRight if the rule is not right for the grammar."""
    tables = faces_of_nodes(grammar, rule)
    if least_wrong(grammar, rule, tables, "none") is not None:
        raise NotRight("rule")
    return tables


def late_ways(grammar, rule, tables):
    """Ways and last lines of records that a gluer of a right rule has not given out behind these lines."""
    return [(way, line) for (k, count), way in counted(grammar, rule.most).items()
            if k in grammar.lasts() and count != rule.most
            for (_, ends), line in tables[k] if not ends]


def pair_table(grammar, rule):
    """For each two nodes that may be neighbours, by all their faces, whether the rule parts their lines."""
    tables = [[face for face, _ in told] for told in faces_of_nodes(grammar, rule)]
    pairs = [("inside", k, after) for k in range(len(grammar)) for after in grammar.nexts(k)]
    pairs.extend([("between", k, after) for k in grammar.lasts() for after in grammar.firsts()])
    return sorted([(word, k, after, face, other, face[1] or other[0])
                   for word, k, after in pairs for face in tables[k] for other in tables[after]])


def _failures(grammar, rule, tables, pauses):
    """All ways in which something is wrong for the first time, with the fewest lines before it.

    Returns tuples: the steps up to the line at which it is sure, the nodes that
    end its record, and whether it needs a pause behind that line.
    """
    found = []
    seen = {}
    queue = [(None, [])]
    at = 0
    while at < len(queue):
        state, trail = queue[at]
        at += 1
        for k, starts in _followers(grammar, state):
            for face, line in tables[k]:
                steps = [*trail, (k, line, starts)]
                if _is_wrong(rule, pauses, state, starts, face):
                    found.append((steps, rest(grammar, k)[1:], False))
                    continue
                after = _state_behind(rule, state, k, starts, face)
                if len(grammar.nexts(k)) > 0 and (not after[2] or (rule.quiet and pauses == "any")):
                    found.append((steps, _shortest_rest(grammar, k), after[2]))
                if after not in seen:
                    seen[after] = True
                    queue.append((after, steps))
    return found


def _followers(grammar, state):
    """The nodes of the lines that may come in this state, each with whether a record begins there."""
    if state is None:
        return followers(grammar, None)
    k, _, is_open = state
    # If the record is no longer open, only its end can be right; that it goes on is a failure found before.
    return [(after, starts) for after, starts in followers(grammar, k) if starts or is_open]


def _is_wrong(rule, pauses, state, starts, face):
    """Whether a line of this face, that does or does not begin a record in truth, is taken wrongly."""
    begins, _ = face
    if not starts:
        return begins
    is_open = state is not None and state[2] and not (rule.quiet and pauses == "behind")
    return not begins and (is_open or not rule.alone)


def _state_behind(rule, state, k, starts, face):
    """The state behind a line of this node and face that was taken rightly."""
    _, ends = face
    many = 1 if starts or rule.most is None else state[1] + 1
    return (k, many, not ends and many != rule.most)


def _shortest_rest(grammar, k):
    """The nodes behind this one up to the nearest last node, at least one."""
    rests = [rest(grammar, after) for after in grammar.nexts(k)]
    return min(rests, key=lambda nodes: len(nodes))


def _with_pauses(lines, ways):
    """The lines with a pause behind each record."""
    found = []
    at = 0
    for way in ways:
        found.extend(lines[at:at + len(way)])
        found.append(None)
        at = at + len(way)
    return found
