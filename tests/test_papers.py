import random
import unittest

from gluedlines.cells import cells_of
from gluedlines.errors import NotRight
from gluedlines.grammars import Grammar
from gluedlines.outputs import follows
from gluedlines.papers import right_paper, wrong_paper
from gluedlines.patterns import Form
from gluedlines.rules import Rule
from gluedlines.scans import begin
from gluedlines.signs import is_line
from gluedlines.verdicts import is_right
from support import (DOT, ITEM, TITLE, got, paper_forms, places_of, pools, random_grammar, random_pattern, random_rule,
                     right_paper_holds, titled)

TEXT = Form("T", Form.ANY)
PATTERNS = (TITLE, ITEM, DOT, TEXT, DOT | Form("x"), TEXT & Form(Form.ANY, "1"))


class PapersCase(unittest.TestCase):
    def check_right(self, grammar, rule):
        """Check that a right paper is of the kinds that the document names, and holds."""
        paper = right_paper(grammar, rule)
        self.assertIsInstance(paper, tuple)
        word, covers, places = paper
        self.assertEqual(word, "right")
        self.assertIsInstance(covers, list)
        self.assertEqual(len(covers), len(grammar))
        for k, states in enumerate(covers):
            self.assertIsInstance(states, list)
            forms = paper_forms(grammar[k], rule)
            for state in states:
                self.assertIsInstance(state, tuple)
                self.assertEqual(len(state), len(forms))
                for form, positions in zip(forms, state):
                    self.check_positions(cells_of(form.parts()), positions)
        self.assertIsInstance(places, list)
        for place in places:
            self.assertIsInstance(place, tuple)
            k, count = place
            self.assertTrue(type(k) is int and type(count) is int)
            self.assertTrue(0 <= k < len(grammar) and count >= 1)
            self.assertTrue(count == 1 or rule.most is not None)
        self.assertTrue(right_paper_holds(grammar, rule, paper))
        return paper

    def check_positions(self, cells, positions):
        self.assertIsInstance(positions, tuple)
        self.assertTrue(all(type(k) is int and 0 <= k <= len(cells) for k in positions))
        self.assertEqual(list(positions), sorted(set(positions)))
        for k in positions:
            if k < len(cells) and cells[k] == Form.ANY:
                self.assertIn(k + 1, positions)

    def check_wrong(self, grammar, rule):
        """Check that a wrong paper is of the kinds that the document names, and holds."""
        paper = wrong_paper(grammar, rule)
        self.assertIsInstance(paper, tuple)
        word, lines, ways = paper
        self.assertEqual(word, "wrong")
        self.assertIsInstance(lines, list)
        self.assertTrue(all(is_line(line) for line in lines))
        self.assertIsInstance(ways, list)
        self.assertTrue(all(type(way) is list and all(type(k) is int for k in way) for way in ways))
        self.assertTrue(follows(grammar, lines, ways))
        self.assertNotEqual(got(rule, lines), places_of(ways))
        return paper

    def check_error(self, call, grammar, rule, word):
        with self.assertRaises(NotRight) as caught:
            call(grammar, rule)
        self.assertEqual(caught.exception.word, word)


class RightPaperTest(PapersCase):
    def test_a_small_paper(self):
        grammar = Grammar([(DOT, [])], [0], [0])
        paper = self.check_right(grammar, Rule([], [DOT]))
        self.assertEqual(paper, ("right", [[((0,), (0,)), ((), ()), ((1,), (1,))]], [(0, 1)]))
        paper = self.check_right(grammar, Rule([], [], most=1))
        self.assertEqual(paper, ("right", [[((0,),), ((),), ((1,),)]], [(0, 1)]))

    def test_without_most(self):
        for rule in (Rule([TITLE], []), Rule([TITLE], [], alone=False), Rule([TITLE, DOT], [DOT])):
            word, covers, places = self.check_right(titled(), rule)
            self.assertEqual(sorted(places), [(0, 1), (1, 1)])
            self.assertIn(begin(paper_forms(TITLE, rule)), covers[0])

    def test_with_most(self):
        grammar = Grammar([(TITLE, [1, 2]), (ITEM, [2]), (DOT, [])], [0], [2])
        for most in (3, 4, 20):
            word, covers, places = self.check_right(grammar, Rule([], [DOT], most=most))
            self.assertEqual(sorted(places), [(0, 1), (1, 2), (2, 2), (2, 3)])

    def test_marks_of_several_forms(self):
        rule = Rule([TITLE | (DOT & TITLE), TEXT], [Form("x") | Form("y")])
        self.check_right(titled(), rule)
        self.check_right(Grammar([(TITLE | Form("Tx"), [1]), (ITEM & Form("-", Form.ANY), [1])], [0], [0, 1]), rule)

    def test_not_right(self):
        for rule in (Rule.every_line(), Rule([], []), Rule([TITLE], [], most=5), Rule([], [DOT], alone=False)):
            self.check_error(right_paper, titled(), rule, "rule")

    def test_tags_and_quiet_have_no_effect(self):
        told = right_paper(titled(), Rule([TITLE], []))
        for tags in (0, 1, 9):
            for quiet in (True, False):
                self.assertEqual(self.check_right(titled(), Rule([TITLE], [], tags=tags, quiet=quiet)), told)

    def test_new_lists(self):
        grammar, rule = titled(), Rule([TITLE], [])
        told = right_paper(grammar, rule)
        for part in (told[1], told[1][0], told[2]):
            part.clear()
        self.check_right(grammar, rule)

    def test_many_rules(self):
        chance = random.Random(131)
        many = {True: 0, False: 0}
        for _ in range(120):
            rule = random_rule(chance, PATTERNS)
            lone, long = pools(chance, rule, PATTERNS, 15)
            for grammar in lone[:1] + long[:2]:
                self.check_right(grammar, rule)
                many[rule.most is None] += 1
        self.assertGreater(min(many.values()), 20)

    def test_many_patterns(self):
        chance = random.Random(132)
        for _ in range(60):
            patterns = [random_pattern(chance, "ab-") for _ in range(2)]
            rule = Rule([random_pattern(chance, "ab-") for _ in range(2)], [], most=chance.choice([None, 1]))
            grammar = random_grammar(chance, 3, [DOT, *patterns])
            if is_right(grammar, rule):
                self.check_right(grammar, rule)
            else:
                self.check_wrong(grammar, rule)

    def test_many_states(self):
        # Three times <any> and a fixed text of four signs: some thousand states together.
        forms = [Form(Form.ANY, "abab", Form.DIGITS, "cdcd"), Form(Form.ANY, "cdcd", Form.DIGITS, "abab")]
        grammar = Grammar([(forms[0] & forms[1] | Form("T"), []), (DOT, [])], [0, 1], [0, 1])
        paper = right_paper(grammar, Rule([], [], most=1))
        self.assertGreater(len(paper[1][0]), 20)


class WrongPaperTest(PapersCase):
    def test_wrong(self):
        for rule in (Rule.every_line(), Rule([], []), Rule([TITLE], [], most=5), Rule([], [DOT], alone=False),
                     Rule([], [], tags=0), Rule([], [], tags=1, quiet=True)):
            self.check_wrong(titled(), rule)

    def test_right(self):
        for rule in (Rule([TITLE], []), Rule([TITLE], [DOT], quiet=True), Rule([TEXT], [], tags=3)):
            self.check_error(wrong_paper, titled(), rule, "paper")

    def test_one_or_the_other(self):
        chance = random.Random(133)
        many = {True: 0, False: 0}
        for _ in range(250):
            grammar, rule = random_grammar(chance, 3, PATTERNS), random_rule(chance, PATTERNS)
            right = is_right(grammar, rule)
            many[right] += 1
            if right:
                self.check_right(grammar, rule)
                self.check_error(wrong_paper, grammar, rule, "paper")
            else:
                self.check_wrong(grammar, rule)
                self.check_error(right_paper, grammar, rule, "rule")
        self.assertGreater(min(many.values()), 20)


if __name__ == "__main__":
    unittest.main()
