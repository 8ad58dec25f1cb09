"""Losses: whether a rule gets the records whole of which no line is lost, whatever else is."""

from gluedlines.faces import faces_of_nodes, not_begun
from gluedlines.gluers import glue_places, taken
from gluedlines.outputs import places_of
from gluedlines.verdicts import late_ways, least_wrong
from gluedlines.ways import example_with, lead, rest

# A remnant is a record of which all lines but one are lost: it may leave any line of the grammar anywhere between
# two records. So an untouched record may stand behind any lines, and before any line.


def loss_wrong(grammar, rule):
    """An output of which an untouched record is not got whole, as (lines, ways, lost, hurt), or None."""
    tables = faces_of_nodes(grammar, rule)
    told = least_wrong(grammar, rule, tables, "none")
    if told is not None:
        lines, ways = told
        return lines, ways, [], _first_not_got(rule, lines, ways)
    return _hurt_by_remnant_before(grammar, rule, tables) or _hurt_by_remnant_behind(grammar, rule, tables)


def _first_not_got(rule, lines, ways):
    """The index of the first record that the gluer does not give out."""
    given = [places for _, places in glue_places(rule, [(0, line) for line in lines])]
    return [places in given for places in places_of(ways)].index(False)


def _hurt_by_remnant_before(grammar, rule, tables):
    """A remnant that stays open, and a record behind it that does not begin one by the rule; or None."""
    staying = [(k, line) for k in range(len(grammar)) for face, line in tables[k] if taken(rule, 0, face)[1] > 0]
    blunt = not_begun(tables, grammar.firsts())
    if len(staying) == 0 or len(blunt) == 0:
        return None
    way, lines, lost = _remnant(grammar, staying[0], 0)
    k, line = blunt[0]
    whole_way = rest(grammar, k)
    whole = example_with(grammar, whole_way, 0, line)
    return lines + whole, [way, whole_way], lost, 1


def _hurt_by_remnant_behind(grammar, rule, tables):
    """A record that stays open at its end, and a remnant behind it that does not begin one by the rule; or None."""
    late = late_ways(grammar, rule, tables)
    blunt = not_begun(tables, list(range(len(grammar))))
    if len(late) == 0 or len(blunt) == 0:
        return None
    whole_way, last = late[0]
    whole = example_with(grammar, whole_way, len(whole_way) - 1, last)
    way, lines, lost = _remnant(grammar, blunt[0], len(whole))
    return whole + lines, [whole_way, way], lost, 0


def _remnant(grammar, left, place):
    """A record of which this (node, line) is left, if it begins at this place: its way, lines and lost places."""
    k, line = left
    ahead = lead(grammar, k)[:-1]
    way = ahead + rest(grammar, k)
    lost = [place + n for n in range(len(way)) if n != len(ahead)]
    return way, example_with(grammar, way, len(ahead), line), lost
