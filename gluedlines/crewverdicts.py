"""Verdicts for crews: whether a rule gets the records of several writers whole."""

from gluedlines.crews import woven
from gluedlines.faces import faces_of_all, not_begun
from gluedlines.verdicts import is_right, late_ways, least_wrong
from gluedlines.ways import example, example_with, rest

# A piece of a crew's output is a tuple (writer, way, lines): one record.


def crew_wrong(crew, rule):
    """An output of the crew for which the rule is not right, as (rows, parts), or None."""
    tables = faces_of_all([crew[writer] for writer in range(len(crew))], rule)
    for writer in range(len(crew)):
        told = least_wrong(crew[writer], rule, tables[writer], "none")
        if told is not None:
            lines, ways = told
            return [(writer, line) for line in lines], [ways if k == writer else [] for k in range(len(crew))]
    # From here on the rule is right for each writer alone.
    if rule.tags is not None:
        pieces = _given_out_early(crew, rule, tables)
    elif _may_mix(crew):
        pieces = _mixed(crew)
    else:
        pieces = _glued(crew, rule, tables)
    return _side_by_side(crew, pieces) if len(pieces) > 0 else None


def breaking_number(grammar, rule):
    """The least number of writers with this grammar, line by line, for which the rule is not right, or None."""
    if not is_right(grammar, rule):
        return 1
    # A record of one line is not interrupted, and with a record for each tag nothing is.
    if grammar.longest() == 1 or rule.tags == 0:
        return None
    return 2 if rule.tags is None else rule.tags + 1


def _may_mix(crew):
    """Whether a line of one writer may stand inside a record of another one."""
    return len(crew) > 1 and not crew.at_once and len(_long_writers(crew)) > 0


def _mixed(crew):
    """A record of several lines and one of another writer, which is to begin inside it."""
    writer = _long_writers(crew)[0]
    other = 1 if writer == 0 else 0
    return [_long_piece(crew, writer), _any_piece(crew, other)]


def _glued(crew, rule, tables):
    """A record that is still open at its end, and one that does not begin by the rule; or no pieces."""
    late = [piece for writer in range(len(crew)) for piece in _late_piece(crew, rule, tables, writer)]
    blunt = [piece for writer in range(len(crew)) for piece in _blunt_piece(crew, tables, writer)]
    return [late[0], blunt[0]] if len(late) > 0 and len(blunt) > 0 else []


def _given_out_early(crew, rule, tables):
    """Records that begin one behind the other until the first one, which goes on later, is given out too early."""
    if crew.at_once or rule.tags == 0 or len(crew) <= rule.tags:
        return []
    for writer in _long_writers(crew):
        others = [other for other in range(len(crew)) if other != writer]
        held = [piece for other in others for piece in _open_piece(crew, rule, tables, other)][:rule.tags - 1]
        if len(held) == rule.tags - 1:
            holders = [other for other, _, _ in held]
            free = [other for other in others if other not in holders]
            return [_long_piece(crew, writer), *held, _any_piece(crew, free[0])]
    return []


def _long_writers(crew):
    """The writers that have records of several lines."""
    return [writer for writer in range(len(crew)) if crew[writer].longest() != 1]


def _open_piece(crew, rule, tables, writer):
    """A list with a piece of the writer that is still open behind its first line, if there is one."""
    if crew[writer].longest() != 1:
        return [_long_piece(crew, writer)]
    return _late_piece(crew, rule, tables, writer)


def _late_piece(crew, rule, tables, writer):
    """A list with a piece of the writer that is still open behind its last line, if there is one."""
    return [(writer, way, example_with(crew[writer], way, len(way) - 1, line))
            for way, line in late_ways(crew[writer], rule, tables[writer])[:1]]


def _blunt_piece(crew, tables, writer):
    """A list with a piece of the writer whose first line does not begin a record by the rule, if there is one."""
    return [(writer, rest(crew[writer], k), example_with(crew[writer], rest(crew[writer], k), 0, line))
            for k, line in not_begun(tables[writer], crew[writer].firsts())[:1]]


def _long_piece(crew, writer):
    """A piece of several lines of a writer that has such records."""
    grammar = crew[writer]
    k = [first for first in grammar.firsts() if len(grammar.nexts(first)) > 0][0]
    way = [k, *rest(grammar, grammar.nexts(k)[0])]
    return writer, way, example(grammar, way)


def _any_piece(crew, writer):
    way = rest(crew[writer], crew[writer].firsts()[0])
    return writer, way, example(crew[writer], way)


def _side_by_side(crew, pieces):
    """The rows of these pieces, of which all have their first lines first unless the crew writes at once; the ways."""
    lines = [[] for _ in range(len(crew))]
    parts = [[] for _ in range(len(crew))]
    for writer, way, record in pieces:
        lines[writer].extend(record)
        parts[writer].append(way)
    if crew.at_once:
        order = [writer for writer, _, record in pieces for _ in record]
    else:
        order = [writer for writer, _, _ in pieces]
        order.extend([writer for writer, _, record in pieces for _ in record[1:]])
    return woven(lines, order), parts
