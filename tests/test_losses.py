import itertools
import random
import unittest

from gluedlines.grammars import Grammar
from gluedlines.losses import loss_wrong
from gluedlines.outputs import follows
from gluedlines.patterns import Form
from gluedlines.rules import Rule
from gluedlines.verdicts import is_right
from support import DOT, ITEM, TITLE, got, outputs_of, places_of, pools, random_grammar, random_rule, titled

TEXT = Form("T", Form.ANY)
LINES = ["T", "T1", "-", "."]
PATTERNS = (TITLE, ITEM, DOT, TEXT)


def hurt_records(rule, lines, ways, lost):
    """The indices of the records of which no line is lost and that are not got whole."""
    left = [at for at in range(len(lines)) if at not in lost]
    given = [[left[at] for at in places] for places in got(rule, [lines[at] for at in left])]
    return [at for at, places in enumerate(places_of(ways))
            if places not in given and not any(place in lost for place in places)]


def some_loss_hurts(grammar, rule, most):
    """Whether some loss hurts some output of at most so many lines, by trying all."""
    for lines, ways in outputs_of(grammar, LINES, most):
        for count in range(len(lines) + 1):
            for lost in itertools.combinations(range(len(lines)), count):
                if hurt_records(rule, lines, ways, lost):
                    return True
    return False


class LossWrongTest(unittest.TestCase):
    def check(self, grammar, rule):
        """Check that what is told is a loss that hurts a record, and return whether there is none."""
        told = loss_wrong(grammar, rule)
        if told is None:
            return True
        self.assertIsInstance(told, tuple)
        self.assertEqual(len(told), 4)
        lines, ways, lost, hurt = told
        self.assertTrue(follows(grammar, lines, ways), told)
        self.assertTrue(all(isinstance(way, list) for way in ways))
        self.assertIsInstance(lost, list)
        self.assertEqual(lost, sorted(set(lost)))
        self.assertTrue(all(0 <= place < len(lines) for place in lost), told)
        self.assertIsInstance(hurt, int)
        self.assertNotIsInstance(hurt, bool)
        self.assertIn(hurt, hurt_records(rule, lines, ways, lost), told)
        return False

    def test_marks_at_both_ends(self):
        grammar = Grammar([(TITLE, [1, 2]), (ITEM, [1, 2]), (DOT, [])], [0], [2])
        self.assertTrue(self.check(grammar, Rule([TITLE], [DOT])))
        self.assertTrue(self.check(grammar, Rule([TITLE], [DOT], alone=False)))
        # A title is lost, or a dot is lost.
        self.assertFalse(self.check(grammar, Rule([TITLE], [])))
        self.assertFalse(self.check(grammar, Rule([], [DOT])))
        for rule in (Rule([TITLE], []), Rule([], [DOT])):
            self.assertTrue(is_right(grammar, rule))
            self.assertFalse(loss_wrong(grammar, rule)[2] == [])

    def test_wrong_without_losses(self):
        for rule in (Rule.every_line(), Rule([], []), Rule([], [ITEM], alone=False), Rule([TITLE], [], most=4)):
            self.assertFalse(self.check(titled(), rule))
            self.assertEqual(loss_wrong(titled(), rule)[2], [])
        self.assertFalse(self.check(Grammar([(DOT, [])], [0], [0]), Rule([], [])))

    def test_what_is_left_of_a_record_hurts_the_one_before_or_behind_it(self):
        grammar = Grammar([(TITLE, [1]), (ITEM, [2]), (DOT, [])], [0], [2])
        for rule, hurt in ((Rule([TITLE], []), 0), (Rule([], [DOT]), 1)):
            lines, ways, lost, told = loss_wrong(grammar, rule)
            self.assertEqual(hurt_records(rule, lines, ways, lost), [hurt])
            self.assertEqual(told, hurt)
            self.assertEqual(ways, [[0, 1, 2], [0, 1, 2]])

    def test_records_of_one_line(self):
        lone = Grammar([(TITLE, []), (DOT, [])], [0, 1], [0, 1])
        for rule in (Rule([TITLE, DOT], []), Rule([], [TITLE, DOT]), Rule([], [], most=1), Rule([DOT, TITLE], [DOT])):
            self.assertTrue(self.check(lone, rule))
        self.assertFalse(self.check(lone, Rule([TITLE], [DOT])))

    def test_most(self):
        # Records of exactly two lines: the title begins them, their length ends them.
        pair = Grammar([(TITLE, [1]), (ITEM, [])], [0], [1])
        self.assertTrue(self.check(pair, Rule([TITLE], [], most=2)))
        self.assertFalse(self.check(pair, Rule([TITLE], [], most=3)))
        self.assertFalse(self.check(pair, Rule([], [], most=2)))
        self.assertTrue(is_right(pair, Rule([], [], most=2)))
        self.assertTrue(self.check(pair, Rule([TITLE], [ITEM], most=2)))
        self.assertFalse(self.check(pair, Rule([], [ITEM], most=2)))
        three = Grammar([(TITLE, [1]), (ITEM, [2]), (ITEM, [])], [0], [2])
        self.assertTrue(self.check(three, Rule([TITLE], [], most=3)))
        self.assertFalse(self.check(three, Rule([TITLE], [], most=4)))

    def test_alone(self):
        # An item that is left over is thrown away, or begins a record that the next title ends.
        pair = Grammar([(TITLE, [1]), (ITEM, [])], [0], [1])
        for alone in (True, False):
            self.assertTrue(self.check(pair, Rule([TITLE], [ITEM], alone=alone)))
            self.assertFalse(self.check(pair, Rule([TITLE], [], alone=alone)))
        # A title with no digits begins no record, so it is glued to a title of which the item is lost.
        mixed = Grammar([(TITLE, [1]), (ITEM, []), (TEXT, [1])], [0, 2], [1])
        self.assertFalse(self.check(mixed, Rule([TITLE], [ITEM])))
        self.assertTrue(is_right(mixed, Rule([TITLE], [ITEM])))
        self.assertTrue(self.check(mixed, Rule([TEXT], [ITEM])))

    def test_only_some_line_of_a_node_is_hurt(self):
        # Only an item that has neither a dot behind it nor digits alone leaves the record open.
        grammar = Grammar([(TITLE, [1]), (ITEM, [])], [0], [1])
        self.assertFalse(self.check(grammar, Rule([TITLE], [Form("-", Form.ANY, "."), Form("-", Form.DIGITS)])))
        self.assertTrue(self.check(grammar, Rule([TITLE], [Form("-", Form.ANY, "."), ITEM])))

    def test_tags_and_quiet_have_no_effect(self):
        chance = random.Random(111)
        for _ in range(60):
            rule = random_rule(chance, PATTERNS)
            lone, long = pools(chance, rule, PATTERNS, 20)
            for grammar in lone[:1] + long[:2] + [random_grammar(chance)]:
                rule.change(tags=None, quiet=False)
                right = self.check(grammar, rule)
                for tags, quiet in ((None, True), (0, False), (1, True), (9, False)):
                    rule.change(tags=tags, quiet=quiet)
                    self.assertIs(self.check(grammar, rule), right)

    def test_all_losses_of_all_short_outputs(self):
        chance = random.Random(112)
        many = {}
        while many.get((True, True), 0) < 10 or many.get((False, True), 0) < 60:
            rule = random_rule(chance, PATTERNS)
            if not (rule.begins() and (rule.ends() or rule.most)) and chance.random() < 0.7:
                # Such a rule hardly ever gets more than one line whole if lines are lost.
                continue
            lone, long = pools(chance, rule, PATTERNS, 25)
            for grammar in lone[:1] + long[:2] + [random_grammar(chance)]:
                right = self.check(grammar, rule)
                key = (right, grammar.longest() != 1)
                many[key] = many.get(key, 0) + 1
                if right:
                    self.assertFalse(some_loss_hurts(grammar, rule, 5 if grammar.longest() != 1 else 4))


if __name__ == "__main__":
    unittest.main()
