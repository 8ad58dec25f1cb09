"""The checker of papers: it trusts nobody, and makes no search of its own."""

from gluedlines.cells import ANY_SIGNS, cells_of, moved
from gluedlines.gluers import glue_places
from gluedlines.looks import held
from gluedlines.outputs import follows, places_of
from gluedlines.papers import forms_for
from gluedlines.scans import begin, signs_for, truths


def lets(grammar, rule, paper):
    """Whether anything is a right or a wrong paper that holds."""
    if not isinstance(paper, tuple) or len(paper) != 3 or not isinstance(paper[0], str):
        return False
    word, one, other = paper
    if word == "right":
        return _is_right_paper(grammar, rule, one, other)
    return word == "wrong" and _is_wrong_paper(grammar, rule, one, other)


def _is_wrong_paper(grammar, rule, lines, ways):
    if not isinstance(lines, list) or not isinstance(ways, list) or not all([_are_nodes(way) for way in ways]):
        return False
    if not follows(grammar, lines, ways):
        return False
    given = [places for _, places in glue_places(rule, [(0, line) for line in lines])]
    return given != places_of(ways)


def _are_nodes(way):
    return isinstance(way, list) and all([_is_integer(k) for k in way])


def _is_integer(thing):
    # True and False are integers to Python.
    return isinstance(thing, int) and not isinstance(thing, bool)


def _is_right_paper(grammar, rule, covers, places):
    if not isinstance(covers, list) or len(covers) != len(grammar) or not isinstance(places, list):
        return False
    if not _are_places(grammar, rule, places) or not _are_all_places(grammar, rule, places):
        return False
    tables = []
    for k, states in enumerate(covers):
        forms = forms_for(grammar[k], rule)
        if not isinstance(states, list) or not _are_states(forms, states):
            return False
        known = {state: True for state in states}
        afters = _afters(forms, states)
        if not all([state in known for state in [begin(forms), *afters]]):
            return False
        tables.append(_faces(grammar[k], rule, afters))
    return _faces_suit(grammar, rule, tables, places)


def _are_places(grammar, rule, places):
    """Whether all these are tuples (node, count)."""
    for place in places:
        if not isinstance(place, tuple) or len(place) != 2 or not all([_is_integer(number) for number in place]):
            return False
        k, count = place
        if not 0 <= k < len(grammar) or count < 1 or (rule.most is None and count != 1):
            return False
    return True


def _are_all_places(grammar, rule, places):
    """Whether no place of a record is missing, and none is too far on for a record that goes on behind it."""
    known = {place: True for place in places}
    for k in grammar.firsts():
        if (k, 1) not in known:
            return False
    for k, count in places:
        if rule.most is not None and count >= rule.most and len(grammar.nexts(k)) > 0:
            return False
        behind = 1 if rule.most is None else count + 1
        if not all([(after, behind) in known for after in grammar.nexts(k)]):
            return False
    return True


def _are_states(forms, states):
    """Whether all these are states of the forms."""
    tables = [cells_of(form.parts()) for form in forms]
    for state in states:
        if not isinstance(state, tuple) or len(state) != len(forms):
            return False
        if not all([_are_positions(cells, positions) for cells, positions in zip(tables, state)]):
            return False
    return True


def _are_positions(cells, positions):
    """Whether this is an ascending tuple of positions that is closed."""
    if not isinstance(positions, tuple) or not all([_is_integer(k) for k in positions]):
        return False
    for at, k in enumerate(positions):
        if not 0 <= k <= len(cells) or (at > 0 and k <= positions[at - 1]):
            return False
        if k < len(cells) and cells[k] == ANY_SIGNS and positions[at + 1:at + 2] != (k + 1,):
            return False
    return True


def _afters(forms, states):
    """The states to which signs lead from these."""
    signs = signs_for(forms)
    tables = [_moves(form, signs, [state[at] for state in states]) for at, form in enumerate(forms)]
    found = {}
    for state in states:
        chosen = [table[positions] for table, positions in zip(tables, state)]
        for after in zip(*chosen):
            found[after] = True
    return list(found)


def _moves(form, signs, sets):
    """For each of these sets of positions of one form, to which each sign leads."""
    cells = cells_of(form.parts())
    found = {}
    for positions in sets:
        if positions not in found:
            found[positions] = [moved(cells, positions, sign) for sign in signs]
    return found


def _faces(pattern, rule, states):
    """The faces of those of these states in which the pattern holds."""
    forms = forms_for(pattern, rule)
    many = len(rule.begins()) + 1
    found = {}
    for state in states:
        told = held([pattern, *rule.begins(), *rule.ends()], truths(forms, state))
        if told[0]:
            found[(any(told[1:many]), any(told[many:]))] = True
    return list(found)


def _faces_suit(grammar, rule, tables, places):
    """Whether nothing parts the lines of a record, and something parts each two records."""
    for k in range(len(grammar)):
        if len(grammar.nexts(k)) > 0 and any([ends for _, ends in tables[k]]):
            return False
        if any([begins for after in grammar.nexts(k) for begins, _ in tables[after]]):
            return False
    if rule.alone and not _is_one_late(grammar, rule, tables, places):
        return True
    return all([begins for k in grammar.firsts() for begins, _ in tables[k]])


def _is_one_late(grammar, rule, tables, places):
    """Whether some record is not given out at its last line."""
    return any([not ends for k, count in places if k in grammar.lasts() and count != rule.most
                for _, ends in tables[k]])
