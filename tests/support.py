"""What several tests use: patterns and grammars at random, and other ways to find what fits them."""

import itertools
import re

from gluedlines.errors import NoGrammar
from gluedlines.gluers import glue_places
from gluedlines.grammars import Grammar
from gluedlines.patterns import Both, Either, Form
from gluedlines.rules import Rule
from gluedlines.scans import begin, signs_for, step, truths
from gluedlines.verdicts import is_right

TITLE, ITEM, DOT = Form("T", Form.DIGITS), Form("-", Form.ANY), Form(".")
SHAPES = {Form.DIGITS: "[0-9]+", Form.WORD: "[A-Za-z]+", Form.ANY: ".*"}


def fits(pattern, line):
    """Whether the line fits the pattern, by Python's regular expressions."""
    if isinstance(pattern, Form):
        shape = "".join(SHAPES.get(part) or re.escape(part) for part in pattern.parts())
        return line != "" and re.fullmatch(shape, line) is not None
    sides = [fits(side, line) for side in (pattern._one, pattern._other)]
    return all(sides) if isinstance(pattern, Both) else any(sides)


def lines_over(signs, most):
    """All lines of at most so many of these signs, the least ones first."""
    for many in range(1, most + 1):
        for line in itertools.product(sorted(signs), repeat=many):
            yield "".join(line)


def random_form(chance, signs, most=2):
    parts = []
    for _ in range(chance.randint(1, 4)):
        kinds = [Form.DIGITS, Form.WORD]
        if Form.ANY not in parts:
            kinds += [Form.ANY, Form.ANY]
        if not parts or parts[-1] in SHAPES:
            kinds += ["fixed"] * 4
        kind = chance.choice(kinds)
        if kind == "fixed":
            kind = "".join(chance.choice(signs) for _ in range(chance.randint(1, most)))
        parts.append(kind)
    return Form(*parts)


def random_pattern(chance, signs, most=2):
    pattern = random_form(chance, signs, most)
    for _ in range(chance.randint(0, 2)):
        other = random_form(chance, signs, most)
        one, other = chance.choice([(pattern, other), (other, pattern)])
        pattern = chance.choice([Both, Either])(one, other)
    return pattern


def titled():
    """A grammar of a title and any number of items."""
    return Grammar([(TITLE, [1]), (ITEM, [1])], [0], [0, 1])


def walks(grammar, many):
    """All lists of so many nodes that are ways, by trying all lists."""
    for way in itertools.product(range(len(grammar)), repeat=many):
        on = all(after in grammar.nexts(k) for k, after in zip(way, way[1:]))
        if on and way[0] in grammar.firsts() and way[-1] in grammar.lasts():
            yield way


def random_grammar(chance, most=4, patterns=(TITLE, ITEM, DOT)):
    """A grammar at random: numbers are tried until they make one."""
    while True:
        many = chance.randint(1, most)
        some = [k for k in range(many) if chance.random() < 0.5]
        nodes = [(chance.choice(patterns), [k for k in range(many) if chance.random() < 0.4])
                 for _ in range(many)]
        chance.shuffle(some)
        try:
            return Grammar(nodes, some, [k for k in range(many) if chance.random() < 0.5])
        except NoGrammar:
            pass


def random_rule(chance, marks=(TITLE, ITEM, DOT, Form("x"), Form("T", Form.ANY))):
    """A rule of a few of these marks, in which each value of a setting is likely."""
    begins, ends = ([mark for mark in marks if chance.random() < 0.3] for _ in range(2))
    return Rule(begins[:3], ends[:3], most=chance.choice([None, None, 1, 2, 3]), alone=chance.random() < 0.6,
                tags=chance.choice([None, 0, 1]), quiet=chance.random() < 0.4)


def outputs_of(grammar, lines, most):
    """All outputs of at most so many lines, all of them from this list, with all their ways."""
    level = [([], [])]
    while level:
        ahead = []
        for found, ways in level:
            if not ways or ways[-1][-1] in grammar.lasts():
                yield found, ways
            if len(found) < most:
                for k in range(len(grammar)):
                    for line in lines:
                        if line in grammar[k]:
                            if ways and k in grammar.nexts(ways[-1][-1]):
                                ahead.append((found + [line], ways[:-1] + [ways[-1] + [k]]))
                            if (not ways or ways[-1][-1] in grammar.lasts()) and k in grammar.firsts():
                                ahead.append((found + [line], ways + [[k]]))
        level = ahead


def random_output(chance, grammar, lines, most):
    """An output along ways at random, of about so many lines from this list."""
    found, ways = [], []
    while True:
        if ways and ways[-1][-1] in grammar.lasts() and len(found) >= most:
            return found, ways
        inside = ways and grammar.nexts(ways[-1][-1])
        if not inside or (ways[-1][-1] in grammar.lasts() and chance.random() < 0.5):
            ways.append([chance.choice(grammar.firsts())])
        else:
            ways[-1].append(chance.choice(inside))
        found.append(chance.choice([line for line in lines if line in grammar[ways[-1][-1]]]))


def places_of(ways):
    """The places of the records along these ways."""
    ends = list(itertools.accumulate(len(way) for way in ways))
    return [list(range(end - len(way), end)) for end, way in zip(ends, ways)]


def got(rule, lines):
    """The places of the records that a rule gets from lines of one tag, in which None is a pause."""
    found, now, at = [], None, 0
    for line in lines:
        if line is None:
            if now and rule.quiet:
                found, now = found + [now], None
            continue
        begins = any(fits(mark, line) for mark in rule.begins())
        if begins and now:
            found, now = found + [now], None
        if now:
            now.append(at)
        elif begins or rule.alone:
            now = [at]
        if now and (len(now) == rule.most or any(fits(mark, line) for mark in rule.ends())):
            found, now = found + [now], None
        at += 1
    return found + [now] if now else found


def pools(chance, rule, patterns, tries=80):
    """Grammars at random for which the rule is right: those with records of one line alone, and the others."""
    lone, long = [], []
    for _ in range(tries):
        grammar = random_grammar(chance, 3, patterns)
        if is_right(grammar, rule):
            (lone if grammar.longest() == 1 else long).append(grammar)
    return lone, long


def right_for_crew(rule, rows, parts):
    """Whether the rule gets exactly the records of these ways of each writer from the rows."""
    given = glue_places(rule, rows)
    truth = []
    for writer, ways in enumerate(parts):
        own = [at for at, (other, _) in enumerate(rows) if other == writer]
        truth.append([[own[at] for at in places] for places in places_of(ways)])
    if rule.tags is None:
        return given == [(None, places) for places in sorted(sum(truth, []), key=lambda places: places[-1])]
    return (all([places for tag, places in given if tag == writer] == own for writer, own in enumerate(truth))
            and len(given) == sum(len(own) for own in truth))


def mixed(parts):
    """All lists that have the things of each of these lists in their order, and no others."""
    if not any(parts):
        yield []
    for k, part in enumerate(parts):
        if part:
            for behind in mixed(parts[:k] + [part[1:]] + parts[k + 1:]):
                yield part[:1] + behind


def crew_outputs(crew, lines, most):
    """All outputs of a crew of at most so many lines, all of them from this list, with the ways of each writer."""
    alone = [list(outputs_of(crew[writer], lines, most)) for writer in range(len(crew))]
    for told in itertools.product(*alone):
        if sum(len(own) for own, _ in told) <= most:
            pieces = []
            for writer, (own, ways) in enumerate(told):
                at_once = places_of(ways) if crew.at_once else [[at] for at in range(len(own))]
                pieces.append([[(writer, own[at]) for at in places] for places in at_once])
            for order in mixed(pieces):
                yield sum(order, []), [ways for _, ways in told]


def paper_forms(pattern, rule):
    """The forms of a node for a rule."""
    return [form for goal in [pattern] + rule.begins() + rule.ends() for form in goal.forms()]


def paper_faces(pattern, rule, states):
    """The faces of a node with this list of states."""
    forms = paper_forms(pattern, rule)
    marks = [pattern] + rule.begins() + rule.ends()
    found = set()
    for state in {step(forms, state, sign) for state in states for sign in signs_for(forms)}:
        told, at = [], 0
        for goal in marks:
            told.append(goal.holds(truths(forms, state)[at:at + len(goal.forms())]))
            at += len(goal.forms())
        if told[0]:
            many = 1 + len(rule.begins())
            found.add((any(told[1:many]), any(told[many:])))
    return found


def right_paper_holds(grammar, rule, paper):
    """Whether a right paper of the right kinds holds, by the words of point 39."""
    _, covers, places = paper
    nodes = range(len(grammar))
    for k in nodes:
        forms = paper_forms(grammar[k], rule)
        if begin(forms) not in covers[k]:
            return False
        for state in covers[k]:
            if any(step(forms, state, sign) not in covers[k] for sign in signs_for(forms)):
                return False
    if any((k, 1) not in places for k in grammar.firsts()):
        return False
    for k, count in places:
        for after in grammar.nexts(k):
            if (after, 1 if rule.most is None else count + 1) not in places:
                return False
        if grammar.nexts(k) and rule.most is not None and count >= rule.most:
            return False
    faces = [paper_faces(grammar[k], rule, covers[k]) for k in nodes]
    for k in nodes:
        if any(begins for after in grammar.nexts(k) for begins, _ in faces[after]):
            return False
        if grammar.nexts(k) and any(ends for _, ends in faces[k]):
            return False
    begun = all(begins for k in grammar.firsts() for begins, _ in faces[k])
    late = any(not ends for k, count in places if k in grammar.lasts() and count != rule.most for _, ends in faces[k])
    return begun if late or not rule.alone else True
