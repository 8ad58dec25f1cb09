"""Changes of crews and rules, and the least sets of them by which a rule becomes right."""

from gluedlines.crews import Crew
from gluedlines.crewverdicts import crew_wrong
from gluedlines.errors import NoChange, NoGrammar, NoRule
from gluedlines.grammars import Grammar
from gluedlines.rules import assign, with_marks

SETTINGS = ("most", "alone", "tags")


def changed(crew, rule, changes):
    """The crew and the rule behind these changes, as new objects, or NoChange."""
    grammars = [crew[writer] for writer in range(len(crew))]
    at_once = crew.at_once
    now = with_marks(rule, rule.begins(), rule.ends())
    for at, (word, value) in enumerate(changes):
        if not _is_change(word, value):
            raise NoChange(at)
        try:
            now = rule_behind(now, word, value)
            grammars = [_grammar_behind(grammar, word, value) for grammar in grammars]
        except (NoRule, NoGrammar) as error:
            raise NoChange(at) from error
        if word == "at once":
            at_once = value
    return Crew(*grammars, at_once=at_once), now


def least_changes(crew, rule, menu):
    """All least sets of these changes by which the rule becomes right for the crew, as sorted tuples of indices."""
    found = []
    for chosen in _sets(len(menu)):
        # Shorter sets are tried first, so a part of this one that is enough was found, or has a part that was.
        if not any([_is_part(less, chosen) for less in found]):
            if _makes_right(crew, rule, [menu[at] for at in chosen]):
                found.append(chosen)
    return found


def rule_behind(rule, word, value):
    """The rule behind a change of this word, a new object if the change concerns rules; or NoRule."""
    if word == "begins":
        return with_marks(rule, [*rule.begins(), value], rule.ends())
    if word == "ends":
        return with_marks(rule, rule.begins(), [*rule.ends(), value])
    if word in SETTINGS:
        other = with_marks(rule, rule.begins(), rule.ends())
        assign(other, word, value)
        return other
    return rule


def _is_change(word, value):
    """Whether there is a change of this word and, if it concerns how a crew writes, of this value."""
    if word == "at once":
        return value is True or value is False
    return word in ("begins", "ends", "title", "closing") or word in SETTINGS


def _grammar_behind(grammar, word, value):
    """The grammar behind a change of this word, or NoGrammar."""
    if word == "title":
        return _with_title(grammar, value)
    if word == "closing":
        return _with_closing(grammar, value)
    return grammar


def _with_title(grammar, pattern):
    nodes = [(grammar[k], grammar.nexts(k)) for k in range(len(grammar))]
    return Grammar([*nodes, (pattern, grammar.firsts())], [len(nodes)], grammar.lasts())


def _with_closing(grammar, pattern):
    many = len(grammar)
    nodes = []
    for k in range(many):
        nexts = grammar.nexts(k)
        nodes.append((grammar[k], [*nexts, many] if k in grammar.lasts() else nexts))
    return Grammar([*nodes, (pattern, [])], grammar.firsts(), [many])


def _sets(many):
    """All sets of the numbers below this one as ascending tuples, shorter ones first."""
    found = [()]
    for at in range(many):
        found = found + [(*chosen, at) for chosen in found]
    return sorted(found, key=lambda chosen: (len(chosen), chosen))


def _is_part(less, chosen):
    return all([at in chosen for at in less])


def _makes_right(crew, rule, changes):
    """Whether these changes can be made and the rule is right behind them."""
    try:
        told = changed(crew, rule, changes)
    except NoChange:
        return False
    return crew_wrong(told[0], told[1]) is None
