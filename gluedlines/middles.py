"""Readers that begin in the middle, and records that are given out late."""

from gluedlines.gluers import BEGUN, taken
from gluedlines.verdicts import late_ways, right_faces


def middle_most(grammar, rule):
    """The greatest delay of a gluer that begins inside a record, 0 if there is none, or None if none is greatest."""
    tables = right_faces(grammar, rule)
    # A state is the node of the last line and the number of lines of the open record, before a record begins both in
    # truth and by the rule: from there on all goes well.
    level = _behind_inner_lines(grammar, rule, tables, [(k, 0) for k in range(len(grammar))])
    most = len(grammar) * (2 if rule.most is None else rule.most + 1)
    many = 0
    while len(level) > 0:
        many += 1
        if many > most:
            # More lines than there are states: one of them comes twice, and so as often as one likes.
            return None
        level = sorted(set(_behind_inner_lines(grammar, rule, tables, level)
                           + _behind_first_lines(grammar, rule, tables, level)))
    return many


def late_ends(grammar, rule):
    """The nodes at which a record may end whose last line does not make the gluer give it out."""
    return sorted({way[-1] for way, _ in late_ways(grammar, rule, right_faces(grammar, rule))})


def _behind_inner_lines(grammar, rule, tables, level):
    """The states to which lines lead that go on with a record."""
    return [(after, taken(rule, count, face)[1]) for k, count in level for after in grammar.nexts(k)
            for face, _ in tables[after]]


def _behind_first_lines(grammar, rule, tables, level):
    """The states to which lines lead that begin a record in truth, but not by the rule."""
    found = []
    for k, count in level:
        if k in grammar.lasts():
            for after in grammar.firsts():
                told = [taken(rule, count, face) for face, _ in tables[after]]
                found.extend([(after, now) for how, now in told if how != BEGUN])
    return found
