"""What several tests use: patterns and grammars at random, and other ways to find what fits them."""

import itertools
import re

from gluedlines.errors import NoGrammar
from gluedlines.grammars import Grammar
from gluedlines.patterns import Both, Either, Form
from gluedlines.rules import Rule

TITLE, ITEM, DOT = Form("T", Form.DIGITS), Form("-", Form.ANY), Form(".")
SHAPES = {Form.DIGITS: "[0-9]+", Form.WORD: "[A-Za-z]+", Form.ANY: ".*"}


def fits(pattern, line):
    """Whether the line fits the pattern, by Python's regular expressions."""
    if isinstance(pattern, Form):
        shape = "".join(SHAPES.get(part) or re.escape(part) for part in pattern.parts())
        return line != "" and re.fullmatch(shape, line) is not None
    sides = [fits(side, line) for side in (pattern._one, pattern._other)]
    return all(sides) if isinstance(pattern, Both) else any(sides)


def lines_over(signs, most):
    """All lines of at most so many of these signs, the least ones first."""
    for many in range(1, most + 1):
        for line in itertools.product(sorted(signs), repeat=many):
            yield "".join(line)


def random_form(chance, signs, most=2):
    parts = []
    for _ in range(chance.randint(1, 4)):
        kinds = [Form.DIGITS, Form.WORD]
        if Form.ANY not in parts:
            kinds += [Form.ANY, Form.ANY]
        if not parts or parts[-1] in SHAPES:
            kinds += ["fixed"] * 4
        kind = chance.choice(kinds)
        if kind == "fixed":
            kind = "".join(chance.choice(signs) for _ in range(chance.randint(1, most)))
        parts.append(kind)
    return Form(*parts)


def random_pattern(chance, signs, most=2):
    pattern = random_form(chance, signs, most)
    for _ in range(chance.randint(0, 2)):
        other = random_form(chance, signs, most)
        one, other = chance.choice([(pattern, other), (other, pattern)])
        pattern = chance.choice([Both, Either])(one, other)
    return pattern


def titled():
    """A grammar of a title and any number of items."""
    return Grammar([(TITLE, [1]), (ITEM, [1])], [0], [0, 1])


def walks(grammar, many):
    """All lists of so many nodes that are ways, by trying all lists."""
    for way in itertools.product(range(len(grammar)), repeat=many):
        on = all(after in grammar.nexts(k) for k, after in zip(way, way[1:]))
        if on and way[0] in grammar.firsts() and way[-1] in grammar.lasts():
            yield way


def random_grammar(chance, most=4, patterns=(TITLE, ITEM, DOT)):
    """A grammar at random: numbers are tried until they make one."""
    while True:
        many = chance.randint(1, most)
        some = [k for k in range(many) if chance.random() < 0.5]
        nodes = [(chance.choice(patterns), [k for k in range(many) if chance.random() < 0.4])
                 for _ in range(many)]
        chance.shuffle(some)
        try:
            return Grammar(nodes, some, [k for k in range(many) if chance.random() < 0.5])
        except NoGrammar:
            pass


def random_rule(chance, marks=(TITLE, ITEM, DOT, Form("x"), Form("T", Form.ANY))):
    """A rule of a few of these marks, in which each value of a setting is likely."""
    begins, ends = ([mark for mark in marks if chance.random() < 0.3] for _ in range(2))
    return Rule(begins[:3], ends[:3], most=chance.choice([None, None, 1, 2, 3]), alone=chance.random() < 0.6,
                tags=chance.choice([None, 0, 1]), quiet=chance.random() < 0.4)


def outputs_of(grammar, lines, most):
    """All outputs of at most so many lines, all of them from this list, with all their ways."""
    level = [([], [])]
    while level:
        ahead = []
        for found, ways in level:
            if not ways or ways[-1][-1] in grammar.lasts():
                yield found, ways
            if len(found) < most:
                for k in range(len(grammar)):
                    for line in lines:
                        if line in grammar[k]:
                            if ways and k in grammar.nexts(ways[-1][-1]):
                                ahead.append((found + [line], ways[:-1] + [ways[-1] + [k]]))
                            if (not ways or ways[-1][-1] in grammar.lasts()) and k in grammar.firsts():
                                ahead.append((found + [line], ways + [[k]]))
        level = ahead


def random_output(chance, grammar, lines, most):
    """An output along ways at random, of about so many lines from this list."""
    found, ways = [], []
    while True:
        if ways and ways[-1][-1] in grammar.lasts() and len(found) >= most:
            return found, ways
        inside = ways and grammar.nexts(ways[-1][-1])
        if not inside or (ways[-1][-1] in grammar.lasts() and chance.random() < 0.5):
            ways.append([chance.choice(grammar.firsts())])
        else:
            ways[-1].append(chance.choice(inside))
        found.append(chance.choice([line for line in lines if line in grammar[ways[-1][-1]]]))


def places_of(ways):
    """The places of the records along these ways."""
    ends = list(itertools.accumulate(len(way) for way in ways))
    return [list(range(end - len(way), end)) for end, way in zip(ends, ways)]


def got(rule, lines):
    """The places of the records that a rule gets from lines of one tag, in which None is a pause."""
    found, now, at = [], None, 0
    for line in lines:
        if line is None:
            if now and rule.quiet:
                found, now = found + [now], None
            continue
        begins = any(fits(mark, line) for mark in rule.begins())
        if begins and now:
            found, now = found + [now], None
        if now:
            now.append(at)
        elif begins or rule.alone:
            now = [at]
        if now and (len(now) == rule.most or any(fits(mark, line) for mark in rule.ends())):
            found, now = found + [now], None
        at += 1
    return found + [now] if now else found
