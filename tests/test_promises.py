"""What the document promises over the whole program (points 2 and 3), tried with small grammars, rules and crews."""

import copy
import itertools
import random
import unittest

from gluedlines.changes import changed, least_changes
from gluedlines.checker import lets
from gluedlines.crews import Crew, woven
from gluedlines.crewverdicts import breaking_number, crew_wrong
from gluedlines.desk import Desk
from gluedlines.errors import (GlueError, NoChange, NoCrew, NoForm, NoGrammar, NoOutput, NoRow, NoRows, NoRule, NotEnough,
                               NotRight)
from gluedlines.faces import faces
from gluedlines.gluers import Gluer, glue, glue_places
from gluedlines.grammars import Grammar
from gluedlines.leastrules import least_rules, why_none
from gluedlines.looks import looks
from gluedlines.losses import loss_wrong
from gluedlines.middles import late_ends, middle_most
from gluedlines.outputs import cuts_of
from gluedlines.papers import right_paper, wrong_paper
from gluedlines.patterns import Form
from gluedlines.readers import Reader
from gluedlines.readings import ahead_needed, two_outputs, two_readings
from gluedlines.rules import Rule, assign
from gluedlines.scans import begin, step, truths
from gluedlines.tables import table
from gluedlines.twins import parted, parted_on
from gluedlines.verdicts import is_right, pair_table, wrong_output
from gluedlines.ways import example, lead, rest, ways
from support import (DOT, ITEM, TITLE, crew_outputs, got, outputs_of, places_of, pools, random_grammar, random_rule,
                     right_for_crew, titled)
from test_losses import hurt_records, some_loss_hurts
from test_middles import delay, greatest

TEXT = Form("T", Form.ANY)
LINES = ["T", "T1", "-", "."]
PATTERNS = (TITLE, ITEM, DOT, TEXT)


def cases(seed, tries):
    """Rules, and grammars of which some are right for them."""
    chance = random.Random(seed)
    for _ in range(tries):
        rule = random_rule(chance, PATTERNS)
        lone, long = pools(chance, rule, PATTERNS, 20)
        for grammar in lone[:1] + long[:2] + [random_grammar(chance, 3, PATTERNS)]:
            yield chance, grammar, rule


class MainPromiseTest(unittest.TestCase):
    def test_one_writer(self):
        for _, grammar, rule in cases(191, 30):
            wrong = [lines for lines, ways in outputs_of(grammar, LINES, 4) if got(rule, lines) != places_of(ways)]
            told = wrong_output(grammar, rule)
            if told is None:
                self.assertEqual(wrong, [])
                self.assertTrue(lets(grammar, rule, right_paper(grammar, rule)))
            else:
                lines, ways = told
                self.assertTrue(lets(grammar, rule, ("wrong", lines, ways)))
                self.assertTrue(lets(grammar, rule, wrong_paper(grammar, rule)))
                self.assertEqual(min([len(lines)] + [len(other) for other in wrong]), len(lines))

    def test_readers(self):
        for _, grammar, _ in cases(192, 25):
            needed = ahead_needed(grammar)
            if needed is None:
                for ahead in (0, 1, 7):
                    self.assertRaises(NotEnough, Reader, grammar, ahead)
            else:
                reader = Reader(grammar, needed)
                for lines, ways in outputs_of(grammar, LINES, 4):
                    found = sum([reader(line) for line in lines], []) + reader.finish()
                    self.assertEqual(found, [[lines[at] for at in places] for places in places_of(ways)])

    def test_least_rules(self):
        marks = [TITLE, DOT, TEXT]
        sets = [some for many in range(4) for some in itertools.combinations(range(3), many)]
        for _, grammar, _ in cases(193, 12):
            right = [choice for choice in itertools.product(sets, sets) if is_right(
                grammar, Rule([marks[at] for at in choice[0]], [marks[at] for at in choice[1]]))]
            least = [choice for choice in right if not any(
                other != choice and all(set(part) <= set(whole) for part, whole in zip(other, choice)) for other in right)]
            self.assertEqual(least_rules(grammar, marks), sorted(least))

    def test_crews(self):
        for chance, grammar, rule in cases(194, 25):
            rule.tags = chance.choice([None, 0, 1, 2])
            crew = Crew(grammar, *[grammar, titled()][:chance.randint(0, 2)], at_once=chance.random() < 0.5)
            right = all(right_for_crew(rule, rows, parts) for rows, parts in crew_outputs(crew, LINES, 3))
            if crew_wrong(crew, rule) is None:
                self.assertTrue(right)

    def test_losses_and_middles(self):
        for _, grammar, rule in cases(195, 20):
            told = loss_wrong(grammar, rule)
            if told is None:
                self.assertFalse(some_loss_hurts(grammar, rule, 4))
            else:
                self.assertIn(told[3], hurt_records(rule, *told[:3]))
            if is_right(grammar, rule):
                most = middle_most(grammar, rule)
                least = greatest(grammar, rule, 4)
                self.assertTrue(least == 3 if most is None else least == min(most, 3))

    def test_twins_and_changes(self):
        for chance, grammar, rule in cases(196, 20):
            other = random_rule(chance, PATTERNS)
            if parted(rule, other) is None:
                self.assertIs(is_right(grammar, rule), is_right(grammar, other))
                self.assertIsNone(parted_on(grammar, rule, other))
            if is_right(grammar, rule):
                self.assertIs(parted_on(grammar, rule, other) is None, is_right(grammar, other))
            self.assertIs(least_changes(Crew(grammar), rule, []) == [()], is_right(grammar, rule))

    def test_a_wrong_rule_becomes_right(self):
        crew, rule = Crew(titled(), titled()), Rule([], [])
        menu = [("begins", TITLE), ("at once", True), ("tags", 0), ("most", 3)]
        for chosen in least_changes(crew, rule, menu):
            found, now = changed(crew, rule, [menu[at] for at in chosen])
            for rows, parts in crew_outputs(found, LINES, 4):
                self.assertTrue(right_for_crew(now, rows, parts))


def numbers_in(thing):
    """All numbers in a value that is made of tuples and lists."""
    if isinstance(thing, (tuple, list)):
        return [number for part in thing for number in numbers_in(part)]
    return [thing] if isinstance(thing, (int, float)) else []


class GeneralRulesTest(unittest.TestCase):
    def test_numbers_are_neither_true_nor_false(self):
        pair = Grammar([(TITLE, [1]), (ITEM, [])], [0], [1])
        rule = Rule([TITLE], [], tags=1)
        told = [breaking_number(pair, rule), breaking_number(pair, Rule([], [])), middle_most(pair, rule),
                late_ends(pair, rule), ahead_needed(pair), ahead_needed(Grammar([(DOT, [])], [0], [0])),
                loss_wrong(pair, rule), loss_wrong(pair, Rule([], [])), crew_wrong(Crew(pair, pair), rule), right_paper(pair, rule),
                right_paper(pair, Rule([], [], most=2)), wrong_paper(pair, Rule([], [])), parted_on(pair, rule, Rule([], [])),
                least_changes(Crew(pair), Rule([], []), [("tags", True), ("begins", TITLE)]), len(pair), pair.longest(),
                lead(pair, 1), rest(pair, 0), two_outputs(pair, 0), wrong_output(pair, Rule([], [])),
                glue_places(rule, [(0, "T1"), (1, "x")]), list(cuts_of(pair, ["T1", "-"])), begin([TITLE]), least_rules(pair, [TITLE])]
        self.assertTrue(all(type(number) is int for number in numbers_in(told)))
        gluer = Gluer(rule)
        gluer("T1", 0)
        gluer("T1", 0)
        self.assertIs(type(gluer.many), int)
        for value in (lets(pair, rule, None), is_right(pair, rule), lets(pair, rule, right_paper(pair, rule))):
            self.assertIsInstance(value, bool)

    def test_lists_that_are_handed_in_may_be_changed(self):
        begins, ends, nodes, nexts, firsts, lasts = [TITLE], [], [], [1], [0], [1, 0]
        nodes.extend([(TITLE, nexts), (ITEM, [1])])
        grammar, rule = Grammar(nodes, firsts, lasts), Rule(begins, ends)
        crew = Crew(grammar, grammar)
        for some in (begins, ends, nodes, nexts, firsts, lasts):
            some.append(9)
        self.assertEqual(grammar, titled())
        self.assertEqual(rule, Rule([TITLE], []))
        gluer = Gluer(rule)
        rule.most = 1
        self.assertEqual(gluer("T1"), [])
        self.assertEqual(crew[0], grammar)
        parts, order = [["T1"], ["-"]], [0, 1]
        rows = woven(parts, order)
        parts[0].append("x")
        order.append(0)
        self.assertEqual(rows, [(0, "T1"), (1, "-")])
        changes = [("begins", DOT)]
        found, now = changed(crew, rule, changes)
        changes.append(1)
        self.assertEqual(now, Rule([TITLE, DOT], [], most=1))

    def test_lists_that_are_told_may_be_changed(self):
        pair = Grammar([(TITLE, [1]), (ITEM, [])], [0], [1])
        rule, wrong, crew = Rule([TITLE], [], tags=0), Rule([], []), Crew(pair, pair)
        gluer, reader, desk = Gluer(rule), Reader(pair, 0), Desk()
        gluer("T1", 0)
        desk.say("form a x")
        asked = [lambda: pair.nexts(0), lambda: pair.firsts(), lambda: pair.lasts(), lambda: rule.begins(), lambda: rule.ends(),
                 lambda: TITLE.forms(), lambda: gluer.waiting(), lambda: looks(TEXT, [TITLE]), lambda: faces(TEXT, rule),
                 lambda: wrong_output(pair, wrong), lambda: pair_table(pair, rule), lambda: least_rules(pair, [TITLE]),
                 lambda: two_outputs(titled(), 0), lambda: crew_wrong(crew, wrong), lambda: loss_wrong(pair, rule),
                 lambda: late_ends(pair, rule), lambda: right_paper(pair, rule), lambda: wrong_paper(pair, wrong),
                 lambda: parted(rule, wrong), lambda: parted_on(pair, rule, wrong), lambda: table(pair, rule),
                 lambda: least_changes(crew, wrong, [("begins", TITLE), ("tags", 0)]), lambda: desk.say("names"),
                 lambda: desk.tried(["names"]), lambda: example(pair, [0, 1]), lambda: lead(pair, 1), lambda: rest(pair, 0),
                 lambda: truths([TITLE], step([TITLE], begin([TITLE]), "T")), lambda: glue(rule, ["T1", "-"]),
                 lambda: glue_places(rule, [(0, "T1"), (0, "-")]), lambda: why_none(pair, [DOT]), lambda: two_readings(pair)]
        for ask in asked:
            told = ask()
            before = copy.deepcopy(told)
            self.spoil(told)
            self.assertEqual(ask(), before)
        self.assertEqual(reader("T1"), [])

    def spoil(self, thing):
        if isinstance(thing, (tuple, list)):
            for part in thing:
                self.spoil(part)
        if isinstance(thing, list):
            thing.append("spoilt")
            thing.reverse()

    def test_arguments_stay_as_they_are(self):
        chance = random.Random(197)
        for _, grammar, rule in cases(198, 12):
            other = random_rule(chance, PATTERNS)
            crew = Crew(grammar, titled())
            menu = [("begins", DOT), ("title", TITLE), ("most", 0), ("at once", True)]
            lines = ["T1", "-", "."]
            kept = copy.deepcopy([grammar, rule, other, menu, lines])
            for call in (wrong_output, is_right, pair_table, breaking_number, loss_wrong, middle_most, late_ends, right_paper,
                         wrong_paper, table):
                try:
                    call(grammar, rule)
                except NotRight:
                    pass
            crew_wrong(crew, rule)
            parted(rule, other)
            parted_on(grammar, rule, other)
            least_changes(crew, rule, menu)
            glue(rule, lines)
            self.assertEqual([grammar, rule, other, menu, lines], kept)
            self.assertEqual([crew[0], crew[1], len(crew), crew.at_once], [grammar, titled(), 2, False])

    def test_an_error_changes_nothing(self):
        rule = Rule([TITLE], [], most=3)
        for call in (lambda: rule.change(most=4, tags=11), lambda: rule.change(alone=False, other=1),
                     lambda: assign(rule, "most", 0), lambda: assign(rule, "marks", 0), lambda: rule.change(quiet=None, most=1)):
            self.assertRaises(NoRule, call)
            self.assertEqual(rule, Rule([TITLE], [], most=3))
        reader = Reader(titled(), 1)
        reader("T1")
        self.assertRaises(NoOutput, reader, "x")
        self.assertEqual(reader("-"), [])
        self.assertEqual(reader.finish(), [["T1", "-"]])
        crew = Crew(titled(), titled(), titled())
        self.assertRaises(NoCrew, lambda: crew + titled())
        self.assertRaises(NoCrew, lambda: titled() + crew)
        self.assertEqual(len(crew), 3)
        parts, order = [["a"], ["b"]], [0, 1, 1]
        self.assertRaises(NoRows, woven, parts, order)
        self.assertEqual((parts, order), ([["a"], ["b"]], [0, 1, 1]))
        self.assertRaises(NoChange, changed, crew, rule, [("most", 1), ("at once", True), ("tags", 10)])
        self.assertEqual((rule.most, rule.tags, crew.at_once), (3, None, False))

    def test_the_error_that_is_named_first(self):
        def told(kind, call):
            with self.assertRaises(kind) as caught:
                call()
            return list(vars(caught.exception).values())
        self.assertEqual(told(NoRule, lambda: Rule([DOT] * 7, [], most=0, alone=1, tags=10, quiet=0)), ["marks"])
        self.assertEqual(told(NoRule, lambda: Rule([], [], quiet=0, tags=10, alone=1, most=0)), ["most"])
        self.assertEqual(told(NoRule, lambda: Rule([], []).change(most=0, name=1)), ["name"])
        self.assertEqual(told(NoRule, lambda: Rule([], []).change(quiet=0, tags=10)), ["tags"])
        self.assertEqual(told(NoGrammar, lambda: Grammar([(DOT, [1]), (DOT, [5])], [], [7])), ["node", 1])
        self.assertEqual(told(NoGrammar, lambda: Grammar([(DOT & TITLE, []), (DOT, [])], [0], [0])), ["reach", 1])
        self.assertEqual(told(NoForm, lambda: Form("a", "b", "", Form.ANY, "c")), [1])
        self.assertEqual(told(NotRight, lambda: wrong_output(titled(), Rule([], []), "x")), ["pauses"])
        self.assertEqual(told(NoChange, lambda: changed(Crew(titled()), Rule([], []), [("tags", 0), ("x", 1), ("most", 0)])), [1])
        self.assertEqual(told(NoRow, lambda: Desk().say("next x x")), ["next x x"])
        for kind in (NoForm, NoRule, NoGrammar, NotRight, NoChange, NoRow):
            self.assertTrue(issubclass(kind, GlueError) and issubclass(kind, ValueError))

    def test_the_same_is_told_twice(self):
        for _, grammar, rule in cases(199, 10):
            for call in (wrong_output, loss_wrong, table, pair_table, breaking_number):
                self.assertEqual(call(grammar, rule), call(grammar, rule))
            self.assertEqual(list(ways(grammar, 4)), list(ways(grammar, 4)))


class DelayTest(unittest.TestCase):
    def test_a_delay_by_hand(self):
        rule, grammar = Rule([TITLE], []), titled()
        lines, ways = ["T1", "-", "-", "T2", "T3", "-"], [[0, 1, 1], [0], [0, 1]]
        self.assertEqual([delay(rule, lines, ways, place) for place in (1, 2, 5)], [2, 1, 1])
        self.assertIsNone(middle_most(grammar, rule))


if __name__ == "__main__":
    unittest.main()
