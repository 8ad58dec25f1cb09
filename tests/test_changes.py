import itertools
import random
import unittest

from gluedlines.changes import changed, least_changes
from gluedlines.crews import Crew
from gluedlines.crewverdicts import crew_wrong
from gluedlines.errors import NoChange, NoGrammar, NoRule
from gluedlines.grammars import Grammar
from gluedlines.patterns import Form
from gluedlines.rules import Rule
from support import DOT, ITEM, TITLE, random_grammar, random_rule, titled

TEXT = Form("T", Form.ANY)
PATTERNS = (TITLE, ITEM, DOT, TEXT)
NOTHING = Form("a") & Form("b")


def lone(pattern=ITEM):
    return Grammar([(pattern, [])], [0], [0])


def long(many):
    return Grammar([(ITEM, [k + 1] if k + 1 < many else []) for k in range(many)], [0], [many - 1])


def grammars_of(crew):
    return [crew[writer] for writer in range(len(crew))]


def copy_of(rule):
    return Rule(rule.begins(), rule.ends(), most=rule.most, alone=rule.alone, tags=rule.tags, quiet=rule.quiet)


class ChangedTest(unittest.TestCase):
    def check(self, crew, rule, changes, grammars, expected, at_once=None):
        """Check what changes make of a crew and a rule, and that both stay as they are."""
        before, kept = grammars_of(crew), copy_of(rule)
        told = changed(crew, rule, changes)
        self.assertIsInstance(told, tuple)
        found, now = told
        self.assertIsInstance(found, Crew)
        self.assertIsInstance(now, Rule)
        self.assertIsNot(found, crew)
        self.assertIsNot(now, rule)
        self.assertEqual(grammars_of(found), grammars)
        self.assertIs(found.at_once, crew.at_once if at_once is None else at_once)
        self.assertEqual(now, expected)
        self.assertEqual([str(mark) for mark in now.begins()], [str(mark) for mark in expected.begins()])
        self.assertEqual([str(mark) for mark in now.ends()], [str(mark) for mark in expected.ends()])
        self.assertEqual(grammars_of(crew), before)
        self.assertEqual(rule, kept)
        return found, now

    def test_no_changes(self):
        for at_once in (True, False):
            rule = Rule([TITLE], [DOT], most=4, alone=False, tags=3, quiet=True)
            self.check(Crew(titled(), lone(), at_once=at_once), rule, [], [titled(), lone()], rule)

    def test_marks(self):
        rule = Rule([TITLE], [DOT], most=4, alone=False, tags=3, quiet=True)
        crew = Crew(titled())
        self.check(crew, rule, [("begins", ITEM)], [titled()],
                   Rule([TITLE, ITEM], [DOT], most=4, alone=False, tags=3, quiet=True))
        self.check(crew, rule, [("ends", ITEM)], [titled()],
                   Rule([TITLE], [DOT, ITEM], most=4, alone=False, tags=3, quiet=True))
        self.check(crew, Rule([], []), [("ends", ITEM), ("begins", DOT), ("ends", TITLE), ("ends", ITEM)], [titled()],
                   Rule([DOT], [ITEM, TITLE, ITEM]))
        # A pattern that no line fits may be a mark.
        self.check(crew, Rule([], []), [("begins", NOTHING)], [titled()], Rule([NOTHING], []))

    def test_settings(self):
        crew, rule = Crew(titled()), Rule([TITLE], [DOT], quiet=True)
        for most in (None, 1, 7, 20):
            self.check(crew, rule, [("most", most)], [titled()], Rule([TITLE], [DOT], quiet=True, most=most))
        for alone in (True, False):
            self.check(crew, rule, [("alone", alone)], [titled()], Rule([TITLE], [DOT], quiet=True, alone=alone))
        for tags in (None, 0, 1, 9):
            self.check(crew, rule, [("tags", tags)], [titled()], Rule([TITLE], [DOT], quiet=True, tags=tags))
        changes = [("most", 3), ("tags", 1), ("most", None), ("alone", False), ("tags", 2), ("most", 5)]
        self.check(crew, rule, changes, [titled()], Rule([TITLE], [DOT], most=5, alone=False, tags=2, quiet=True))

    def test_at_once(self):
        for before in (True, False):
            for after in (True, False):
                crew = Crew(titled(), lone(), at_once=before)
                self.check(crew, Rule([], []), [("at once", after)], [titled(), lone()], Rule([], []), after)
                self.check(crew, Rule([], []), [("at once", after), ("at once", before)], [titled(), lone()],
                           Rule([], []), before)

    def test_title(self):
        grammar = Grammar([(ITEM, [1, 0]), (DOT, []), (TITLE, [1])], [2, 0], [1, 0])
        expected = Grammar([(ITEM, [0, 1]), (DOT, []), (TITLE, [1]), (TEXT, [0, 2])], [3], [0, 1])
        self.check(Crew(grammar), Rule([], []), [("title", TEXT)], [expected], Rule([], []))
        expected = [Grammar([(TITLE, [1]), (ITEM, [1]), (TEXT, [0])], [2], [0, 1]), Grammar([(ITEM, []), (TEXT, [0])], [1], [0])]
        self.check(Crew(titled(), lone()), Rule([], []), [("title", TEXT)], expected, Rule([], []))

    def test_closing(self):
        grammar = Grammar([(ITEM, [1, 0]), (DOT, []), (TITLE, [1])], [2, 0], [1, 0])
        expected = Grammar([(ITEM, [0, 1, 3]), (DOT, [3]), (TITLE, [1]), (TEXT, [])], [0, 2], [3])
        self.check(Crew(grammar), Rule([], []), [("closing", TEXT)], [expected], Rule([], []))
        expected = [Grammar([(ITEM, [1]), (TEXT, [])], [0], [1])] * 3
        self.check(Crew(lone(), lone(), lone()), Rule([], []), [("closing", TEXT)], expected, Rule([], []))

    def test_several_in_order(self):
        one, other = Form("a"), Form("b")
        expected = Grammar([(ITEM, [1]), (other, [3]), (one, [0]), (DOT, [])], [2], [3])
        self.check(Crew(lone()), Rule([], []), [("closing", other), ("title", one), ("closing", DOT)], [expected], Rule([], []))
        expected = Grammar([(ITEM, []), (one, [0]), (other, [1])], [2], [0])
        self.check(Crew(lone()), Rule([], []), [("title", one), ("title", other)], [expected], Rule([], []))
        changes = [("title", TITLE), ("begins", TITLE), ("at once", True), ("most", 2), ("tags", 0)]
        self.check(Crew(lone(), lone()), Rule([], []), changes, [Grammar([(ITEM, []), (TITLE, [0])], [1], [0])] * 2,
                   Rule([TITLE], [], most=2, tags=0), True)

    def test_new_objects(self):
        crew, rule, changes = Crew(lone()), Rule([], []), []
        found, now = changed(crew, rule, changes)
        now.most = 3
        found[0] = titled()
        self.assertIsNone(rule.most)
        self.assertEqual(crew[0], lone())
        changes = [("title", TITLE)]
        changed(crew, rule, changes)
        self.assertEqual(changes, [("title", TITLE)])

    def check_error(self, crew, rule, changes, at, cause):
        kept, before = copy_of(rule), grammars_of(crew)
        with self.assertRaises(NoChange) as caught:
            changed(crew, rule, changes)
        self.assertEqual(caught.exception.at, at)
        self.assertNotIsInstance(caught.exception.at, bool)
        if cause is None:
            self.assertIsNone(caught.exception.__cause__)
        else:
            self.assertIsInstance(caught.exception.__cause__, cause)
        self.assertEqual(rule, kept)
        self.assertEqual(grammars_of(crew), before)
        return caught.exception.__cause__

    def test_another_word(self):
        for word in ("quiet", "begin", "end", "at_once", "", "Title", "marks", "most ", "atonce", None, 0, "name"):
            for value in (TITLE, 1, True, None):
                self.check_error(Crew(lone()), Rule([], []), [(word, value)], 0, None)
        self.check_error(Crew(lone()), Rule([], []), [("most", 3), ("least", 3), ("most", 99)], 1, None)

    def test_values_that_a_rule_refuses(self):
        for word, values in (("most", (0, 21, -1, True, False, "3", [1], 2.0)), ("alone", (None, 0, 1, "yes", [])),
                             ("tags", (-1, 10, True, False, "0", ()))):
            for value in values:
                for before in ([], [("most", 2)], [("title", TITLE), ("ends", DOT)]):
                    cause = self.check_error(Crew(lone()), Rule([], []), [*before, (word, value)], len(before), NoRule)
                    self.assertEqual(cause.field, word)

    def test_too_many_marks(self):
        for word in ("begins", "ends"):
            cause = self.check_error(Crew(lone()), Rule([TITLE] * 3, [DOT] * 2), [(word, DOT), ("most", 1), (word, DOT)],
                                     2, NoRule)
            self.assertEqual(cause.field, "marks")

    def test_at_once_is_neither(self):
        for value in (None, 0, 1, "yes", [], TITLE):
            self.check_error(Crew(lone()), Rule([], []), [("at once", True), ("at once", value)], 1, None)

    def test_too_many_nodes(self):
        for word in ("title", "closing"):
            cause = self.check_error(Crew(lone(), long(7)), Rule([], []), [(word, DOT), (word, DOT)], 1, NoGrammar)
            self.assertEqual((cause.part, cause.at), ("nodes", None))
            cause = self.check_error(Crew(long(8)), Rule([], []), [(word, NOTHING)], 0, NoGrammar)
            self.assertEqual((cause.part, cause.at), ("nodes", None))

    def test_lines_that_do_not_exist(self):
        for word in ("title", "closing"):
            cause = self.check_error(Crew(lone(), long(4)), Rule([], []), [(word, DOT), (word, NOTHING)], 1, NoGrammar)
            self.assertEqual((cause.part, cause.at), ("line", 2))

    def test_the_first_that_cannot_be_made(self):
        wrong = [("most", 0), ("quiet", True), ("at once", 1), ("title", NOTHING), ("tags", 10)]
        for first, second in itertools.permutations(wrong, 2):
            cause = {"most": NoRule, "tags": NoRule, "title": NoGrammar}.get(first[0])
            self.check_error(Crew(lone()), Rule([], []), [("most", 1), first, second], 1, cause)


class LeastChangesTest(unittest.TestCase):
    def least(self, crew, rule, menu):
        """All least sets, by trying all sets."""
        right = []
        for many in range(len(menu) + 1):
            for chosen in itertools.combinations(range(len(menu)), many):
                try:
                    found, now = changed(crew, rule, [menu[at] for at in chosen])
                except NoChange:
                    continue
                if crew_wrong(found, now) is None:
                    right.append(chosen)
        return [chosen for chosen in right if not any(set(less) < set(chosen) for less in right)]

    def check(self, crew, rule, menu, expected=None):
        before, kept, items = grammars_of(crew), copy_of(rule), list(menu)
        told = least_changes(crew, rule, menu)
        self.assertEqual(told, self.least(crew, rule, menu))
        if expected is not None:
            self.assertEqual(told, expected)
        self.assertTrue(all(isinstance(chosen, tuple) for chosen in told))
        self.assertEqual((grammars_of(crew), menu), (before, items))
        self.assertEqual(rule, kept)
        return told

    def test_no_changes_are_needed(self):
        crew, rule = Crew(titled()), Rule([TITLE], [])
        for menu in ([], [("most", 3)], [("most", 0)], [("begins", DOT), ("title", TITLE), ("tags", 0), ("most", 20)]):
            self.check(crew, rule, menu, [()])

    def test_nothing_helps(self):
        self.check(Crew(titled()), Rule([], []), [], [])
        self.check(Crew(titled()), Rule([], []), [("most", 3), ("alone", False), ("tags", 0)], [])
        self.check(Crew(titled()), Rule([], []), [("begins", ITEM), ("begins", TEXT & DOT)], [])

    def test_one_or_another(self):
        self.check(Crew(titled()), Rule([], []), [("begins", TEXT), ("begins", TITLE), ("ends", ITEM), ("closing", DOT)],
                   [(0,), (1,)])
        crew = Crew(titled(), titled())
        menu = [("tags", 0), ("begins", TITLE), ("at once", True), ("tags", 2)]
        self.check(crew, Rule([], []), menu, [(0, 1), (1, 2), (1, 3)])
        self.check(crew, Rule([TITLE], []), menu, [(0,), (2,), (3,)])

    def test_sets_of_several_lengths(self):
        # A title that is marked, or a closing line that is marked, or records of one line.
        crew = Crew(lone())
        self.check(crew, Rule([], []), [("title", TITLE), ("begins", TITLE), ("most", 1), ("closing", DOT)], [(2,), (0, 1)])
        self.check(crew, Rule([], []), [("title", TITLE), ("begins", TITLE), ("ends", DOT), ("closing", DOT)],
                   [(0, 1), (2, 3)])
        self.check(crew, Rule([], []), [("title", TITLE), ("begins", TITLE), ("closing", TITLE), ("ends", ITEM)],
                   [(3,), (0, 1)])

    def test_three_and_four_changes(self):
        menu = [("title", TITLE), ("begins", TITLE), ("at once", True), ("alone", True)]
        crew = Crew(lone(), titled())
        rule = Rule([], [], alone=False)
        self.check(Crew(lone(), lone()), rule, menu, [(0, 1, 2)])
        self.check(crew, rule, menu, [])
        self.check(Crew(lone(), lone()), rule, [("title", TITLE), ("begins", TITLE), ("tags", 0), ("most", 2)], [(0, 1, 2)])
        menu = [("title", TITLE), ("begins", TITLE), ("title", Form("y")), ("begins", Form("y"))]
        self.check(Crew(lone(TITLE)), Rule([], [], alone=False), menu, [(1,), (2, 3)])
        self.check(Crew(lone()), Rule([Form("y")], [], most=1), [("most", None), ("title", Form("y")), ("begins", ITEM),
                                                                ("title", TITLE)], [()])
        # The rule is right only behind all four.
        menu = [("most", None), ("title", TITLE), ("begins", TITLE), ("closing", DOT)]
        self.check(Crew(long(2)), Rule([], [DOT], most=1, alone=False), menu, [(0, 1, 2)])
        menu = [("most", None), ("title", TITLE), ("begins", TITLE), ("alone", False)]
        self.check(Crew(long(2)), Rule([], [], most=1), menu, [(0, 1, 2)])
        menu = [("closing", DOT), ("ends", DOT), ("most", None), ("at once", True)]
        self.check(Crew(long(2), lone()), Rule([], [], most=1), menu, [(0, 1, 2, 3)])

    def test_the_order_of_the_menu(self):
        # The later one of two changes of the same setting counts.
        self.check(Crew(lone()), Rule([], [], most=3), [("most", 2), ("most", 1)], [(1,)])
        self.check(Crew(lone()), Rule([], [], most=3), [("most", 1), ("most", 2)], [(0,)])
        self.check(Crew(lone()), Rule([], []), [("ends", ITEM), ("title", ITEM)], [(0,)])

    def test_sets_that_cannot_be_made(self):
        crew = Crew(titled())
        self.check(crew, Rule([], []), [("begins", TITLE), ("most", 0), ("begin", TITLE), ("title", NOTHING)], [(0,)])
        self.check(crew, Rule([], []), [("most", 0), ("most", 21)], [])
        self.check(crew, Rule([DOT] * 5, []), [("begins", DOT), ("begins", TITLE)], [(1,)])
        self.check(Crew(long(7)), Rule([], []), [("title", TITLE), ("begins", TITLE), ("closing", DOT), ("ends", DOT)],
                   [(0, 1), (2, 3)])
        self.check(Crew(long(8)), Rule([], []), [("title", TITLE), ("begins", TITLE), ("most", 8)], [(2,)])

    def test_many_menus(self):
        chance = random.Random(161)
        many = {}
        for _ in range(600):
            rule = random_rule(chance, PATTERNS[:3])
            rule = Rule(rule.begins()[:1], rule.ends()[:1], most=rule.most, alone=rule.alone, tags=rule.tags)
            crew = Crew(*[random_grammar(chance, 2, PATTERNS[:3]) for _ in range(chance.choice([1, 1, 2, 3]))],
                        at_once=chance.random() < 0.3)
            items = [("begins", TITLE), ("ends", DOT), ("begins", ITEM), ("ends", ITEM), ("most", 1), ("most", None), ("most", 2),
                     ("alone", True), ("tags", 0), ("tags", 1), ("at once", True), ("title", TITLE), ("closing", DOT),
                     ("title", Form("x")), ("begins", Form("x")), ("most", 0), ("x", 1)]
            menu = [chance.choice(items) for _ in range(chance.randint(0, 4))]
            for chosen in self.check(crew, rule, menu):
                many[len(chosen)] = many.get(len(chosen), 0) + 1
        self.assertTrue(all(many.get(length, 0) > 3 for length in (0, 1, 2)), many)

    def test_new_lists(self):
        crew, rule = Crew(lone()), Rule([], [])
        least_changes(crew, rule, [("most", 1)]).clear()
        self.assertEqual(least_changes(crew, rule, [("most", 1)]), [(0,)])


if __name__ == "__main__":
    unittest.main()
