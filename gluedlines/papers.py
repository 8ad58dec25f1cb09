"""Papers: what shows that a rule is right or wrong, so that it can be checked without a search."""

from gluedlines.errors import NotRight
from gluedlines.scans import numbered, signs_for
from gluedlines.verdicts import is_right, wrong_output
from gluedlines.ways import counted


def right_paper(grammar, rule):
    """A paper that says that the rule is right for the grammar, or NotRight."""
    if not is_right(grammar, rule):
        raise NotRight("rule")
    covers = [_cover(forms_for(grammar[k], rule)) for k in range(len(grammar))]
    return "right", covers, list(counted(grammar, rule.most))


def wrong_paper(grammar, rule):
    """A paper that says that the rule is wrong for the grammar, or NotRight."""
    told = wrong_output(grammar, rule)
    if told is None:
        raise NotRight("paper")
    lines, ways = told
    return "wrong", lines, ways


def forms_for(pattern, rule):
    """The forms of a node with this pattern, and those of the marks of the rule."""
    return [form for goal in [pattern, *rule.begins(), *rule.ends()] for form in goal.forms()]


def _cover(forms):
    """All states of these forms to which signs lead from the start, and the start."""
    signs = signs_for(forms)
    tables = [numbered(form, signs) for form in forms]
    found = [tuple([0] * len(forms))]
    seen = {found[0]: True}
    at = 0
    while at < len(found):
        chosen = [rows[n] for (_, rows), n in zip(tables, found[at])]
        for after in zip(*chosen):
            if after not in seen:
                seen[after] = True
                found.append(after)
        at += 1
    return [tuple([states[n] for (states, _), n in zip(tables, numbers)]) for numbers in found]
