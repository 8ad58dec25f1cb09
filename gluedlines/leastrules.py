"""Least rules: as few of some marks as make a rule right for a grammar."""

from gluedlines.looks import looks


def least_rules(grammar, marks):
    """All least choices of marks, as sorted tuples (begins, ends) of indices."""
    return _choices(grammar, marks, _tables(grammar, marks))


def why_none(grammar, marks):
    """Why there is no least choice: a first and a last node, each with a line whose marks are of no use; or None."""
    tables = _tables(grammar, marks)
    if len(_choices(grammar, marks, tables)) > 0:
        return None
    return (_useless(tables, marks, grammar.firsts(), _behind_others(grammar)),
            _useless(tables, marks, grammar.lasts(), _before_others(grammar)))


def _choices(grammar, marks, tables):
    # If a rule of both kinds of marks is right, then all first lines begin or all last lines end a record by it:
    # else a last line and a first line that do not would be glued. So one of its two lists suffices.
    begins = _least_sets(marks, _looks_of(tables, grammar.firsts()), _looks_of(tables, _behind_others(grammar)))
    ends = _least_sets(marks, _looks_of(tables, grammar.lasts()), _looks_of(tables, _before_others(grammar)))
    return sorted([(chosen, ()) for chosen in begins] + [((), chosen) for chosen in ends])


def _tables(grammar, marks):
    return [looks(grammar[k], marks) for k in range(len(grammar))]


def _behind_others(grammar):
    """The nodes that are a next of some node."""
    return sorted({after for k in range(len(grammar)) for after in grammar.nexts(k)})


def _before_others(grammar):
    """The nodes that have nexts."""
    return [k for k in range(len(grammar)) if len(grammar.nexts(k)) > 0]


def _looks_of(tables, nodes):
    return [look for k in nodes for look, _ in tables[k]]


def _free(marks, barred):
    """The indices of the marks that stand in none of the barred looks."""
    return [mark for mark in range(len(marks)) if not any([mark in look for look in barred])]


def _least_sets(marks, needed, barred):
    """The least sets of marks that have one in each needed look, and none in a barred look."""
    sets = [()]
    for mark in _free(marks, barred):
        sets = sets + [(*chosen, mark) for chosen in sets]
    enough = [chosen for chosen in sets if all([_share(chosen, look) for look in needed])]
    return [chosen for chosen in enough if not any([_is_less(other, chosen) for other in enough])]


def _share(chosen, look):
    return any([mark in look for mark in chosen])


def _is_less(other, chosen):
    """Whether the one is a proper part of the other."""
    return len(other) < len(chosen) and all([mark in chosen for mark in other])


def _useless(tables, marks, nodes, barred_nodes):
    """The first of these nodes with a line of which each mark is barred, and this line."""
    free = _free(marks, _looks_of(tables, barred_nodes))
    found = [(k, line) for k in nodes for look, line in tables[k] if not _share(free, look)]
    return found[0]
