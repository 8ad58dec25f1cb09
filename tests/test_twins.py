import itertools
import random
import unittest

from gluedlines.grammars import Grammar
from gluedlines.outputs import follows
from gluedlines.patterns import Form
from gluedlines.rules import Rule
from gluedlines.signs import is_line
from gluedlines.twins import parted, parted_on
from support import DOT, ITEM, TITLE, got, lines_over, outputs_of, random_grammar, random_pattern, random_rule, titled

TEXT = Form("T", Form.ANY)
LINES = ["T", "T1", "-", ".", "x"]
PATTERNS = (TITLE, ITEM, DOT, TEXT)


class TwinsCase(unittest.TestCase):
    def check(self, rule, other, lines=LINES, most=4):
        """Check that what is told parts the rules and is shortest, and return the number of its lines."""
        told = parted(rule, other)
        if told is not None:
            self.assertIsInstance(told, list)
            self.assertTrue(all(is_line(line) for line in told))
            self.assertNotEqual(got(rule, told), got(other, told))
        shorter = most if told is None else min(most, len(told) - 1)
        for many in range(shorter + 1):
            for some in itertools.product(lines, repeat=many):
                self.assertEqual(got(rule, some), got(other, some))
        back = parted(other, rule)
        self.assertEqual(None if back is None else len(back), None if told is None else len(told))
        return None if told is None else len(told)

    def check_on(self, grammar, rule, other, most=4):
        """Check that what is told parts the rules, and return whether nothing does."""
        told = parted_on(grammar, rule, other)
        if told is None:
            for lines, _ in outputs_of(grammar, LINES, most):
                self.assertEqual(got(rule, lines), got(other, lines))
            return True
        self.assertIsInstance(told, tuple)
        lines, ways = told
        self.assertTrue(follows(grammar, lines, ways), told)
        self.assertTrue(all(isinstance(way, list) for way in ways))
        self.assertNotEqual(got(rule, lines), got(other, lines))
        return False


class PartedTest(TwinsCase):
    def test_equal_rules(self):
        for rule in (Rule([], []), Rule.every_line(), Rule([TITLE], [DOT], most=4), Rule([TITLE, DOT], [ITEM])):
            self.assertIsNone(self.check(rule, rule))
        self.assertIsNone(self.check(Rule([TITLE, DOT], []), Rule([DOT, TITLE, DOT], [])))
        self.assertIsNone(self.check(Rule([TITLE | DOT], []), Rule([DOT, TITLE], [])))
        self.assertIsNone(self.check(Rule([TEXT, TITLE], []), Rule([TEXT], [])))

    def test_rules_that_do_the_same_in_other_ways(self):
        every = Form(Form.ANY)
        for rule in (Rule.every_line(), Rule([], [every]), Rule([], [], most=1), Rule([every], [every], alone=False),
                     Rule([], [Form(Form.WORD) | every], most=7), Rule([every], [], most=1)):
            self.assertIsNone(self.check(Rule.every_line(), rule))
        self.assertEqual(self.check(Rule.every_line(), Rule([], [], most=2)), 2)
        self.assertEqual(self.check(Rule.every_line(), Rule([], [every], alone=False)), 1)
        # Nothing begins a record, so nothing is ever taken.
        self.assertIsNone(self.check(Rule([], [DOT], alone=False, most=3), Rule([], [], alone=False)))

    def test_fewest_lines(self):
        self.assertEqual(self.check(Rule([TITLE], []), Rule([], [])), 2)
        self.assertEqual(self.check(Rule([TITLE], []), Rule([], [TITLE])), 2)
        self.assertEqual(self.check(Rule([], [DOT]), Rule([], [DOT, TITLE])), 2)
        self.assertEqual(self.check(Rule([TITLE], []), Rule([TITLE], [], alone=False)), 1)
        self.assertEqual(self.check(Rule([TITLE], [DOT], alone=False), Rule([TITLE], [], alone=False)), 3)
        for most in (1, 2, 3, 19, 20):
            self.assertEqual(self.check(Rule([], []), Rule([], [], most=most), ["T"]), most + 1)
            self.assertEqual(self.check(Rule([TITLE], [DOT], most=most), Rule([TITLE], [DOT]), ["-"]), most + 1)
        for most in range(1, 20):
            self.assertEqual(self.check(Rule([], [], most=most), Rule([], [], most=most + 1), ["T"]), most + 1)

    def test_most_is_never_reached(self):
        # A line that ends no record begins one.
        dotted = Form(Form.ANY, ".")
        rule = Rule([Form(Form.ANY)], [dotted])
        self.assertIsNone(self.check(rule, Rule([Form(Form.ANY)], [dotted], most=2)))

    def test_tags_and_quiet_have_no_effect(self):
        for tags in (None, 0, 1, 9):
            for quiet in (True, False):
                self.assertIsNone(self.check(Rule([TITLE], [DOT]), Rule([TITLE], [DOT], tags=tags, quiet=quiet), most=2))
                self.assertEqual(self.check(Rule([TITLE], []), Rule([], [], tags=tags, quiet=quiet)), 2)

    def test_six_marks_in_each(self):
        words = [Form(word) for word in ("a", "b", "c", "d", "e", "f")]
        rule = Rule(words, [])
        self.assertIsNone(self.check(rule, Rule(words[::-1], []), most=1))
        self.assertEqual(self.check(rule, Rule([], words), list("abcdefg"), 3), 2)
        self.assertIsNone(self.check(rule, Rule([words[0] | words[1] | words[2], words[3] | words[4], words[5]], []),
                                     list("abcdefg"), 3))
        self.assertEqual(self.check(rule, Rule(words[:5] + [Form("g")], []), list("abcdefg"), 3), 2)
        self.assertEqual(parted(rule, Rule(words[:5], []))[1], "f")
        three = [(Form(Form.ANY, a) | Form(b, Form.ANY)) | Form(c) for a, b, c in ("abc", "bcd", "cde")]
        self.assertIsNone(self.check(Rule(three, three), Rule(three[::-1], three), list("ab"), 3))
        self.assertEqual(self.check(Rule(three, three), Rule(three, three[:2] + [Form(Form.ANY, "c")]), list("ade"), 3), 2)

    def test_lines_that_only_a_pattern_tells_apart(self):
        one, other = Form(Form.ANY, "ab"), Form("ab", Form.ANY)
        told = parted(Rule([one & other], []), Rule([one], []))
        self.assertEqual(len(told), 2)
        self.assertTrue(told[1].endswith("ab") and not told[1].startswith("ab"))
        self.assertIsNone(parted(Rule([Form("ab", Form.DIGITS), Form("ab", Form.WORD)], []),
                                 Rule([Form("ab", Form.DIGITS) | Form("ab", Form.WORD)], [])))
        self.assertIsNotNone(parted(Rule([Form(Form.DIGITS)], []), Rule([Form(Form.DIGITS, Form.ANY)], [])))

    def test_all_short_lists(self):
        chance = random.Random(151)
        told = {}
        for _ in range(250):
            rule, other = random_rule(chance), random_rule(chance)
            if chance.random() < 0.5:
                other = Rule(rule.begins(), rule.ends(), most=chance.choice([None, rule.most, 2, 3, 4]),
                             alone=chance.choice([rule.alone, True]), tags=other.tags)
                other = Rule(other.begins()[:2] + [TEXT & TITLE][:chance.randint(0, 1)], other.ends(), most=other.most,
                             alone=other.alone)
            many = self.check(rule, other, most=3)
            told[many] = told.get(many, 0) + 1
        for many in (None, 1, 2, 3):
            self.assertGreater(told.get(many, 0), 3, told)

    def test_all_lines_of_few_signs(self):
        chance = random.Random(152)
        lines = list(lines_over("a1-", 2))
        for _ in range(40):
            pattern, mate = random_pattern(chance, "a1-", 1), random_pattern(chance, "a1-", 1)
            rule = Rule([pattern], [mate][:chance.randint(0, 1)])
            other = Rule([chance.choice([pattern, pattern & Form(Form.ANY) if len(pattern.forms()) < 3 else pattern])],
                         [chance.choice([mate, pattern])][:chance.randint(0, 1)])
            self.check(rule, other, lines, 2)

    def test_new_lists(self):
        rule = Rule([TITLE], [])
        parted(rule, Rule([], [])).append("x")
        self.assertEqual(len(parted(rule, Rule([], []))), 2)


class PartedOnTest(TwinsCase):
    def test_a_grammar_that_does_not_tell(self):
        lone = Grammar([(TITLE, [])], [0], [0])
        self.assertTrue(self.check_on(titled(), Rule([TITLE], []), Rule([TITLE, DOT], [])))
        self.assertTrue(self.check_on(titled(), Rule([TITLE], []), Rule([TITLE], [], alone=False)))
        self.assertTrue(self.check_on(lone, Rule([TITLE], []), Rule([], [TITLE])))
        self.assertTrue(self.check_on(lone, Rule([TITLE], []), Rule([], [], most=1)))
        self.assertFalse(self.check_on(titled(), Rule([TITLE], []), Rule([], [TITLE])))
        self.assertIsNotNone(parted(Rule([TITLE], []), Rule([TITLE], [], alone=False)))

    def test_records_that_are_too_short(self):
        grammar = Grammar([(TITLE, [1]), (ITEM, [2]), (ITEM, [])], [0], [2])
        for most in (1, 2, 3, 4):
            self.assertIs(self.check_on(grammar, Rule([TITLE], []), Rule([TITLE], [], most=most)), most >= 3)
        self.assertFalse(self.check_on(titled(), Rule([TITLE], []), Rule([TITLE], [], most=20)))
        # Wrong rules are compared as well: one record of all lines, or of twenty.
        self.assertFalse(self.check_on(titled(), Rule([], []), Rule([], [], most=20)))
        self.assertTrue(self.check_on(titled(), Rule([], [], alone=False), Rule([], [DOT], alone=False, most=20)))

    def test_the_output_is_brought_to_its_end(self):
        grammar = Grammar([(TITLE, [1]), (ITEM, [2]), (DOT, [])], [0], [2])
        lines, ways = parted_on(grammar, Rule([TITLE], []), Rule([], [], alone=False))
        self.assertEqual(ways[-1], [0, 1, 2])
        self.assertFalse(self.check_on(grammar, Rule([TITLE, ITEM], []), Rule([TITLE], [])))

    def test_tags_and_quiet_have_no_effect(self):
        for tags in (None, 0, 1, 9):
            for quiet in (True, False):
                other = Rule([TITLE, DOT], [], tags=tags, quiet=quiet)
                self.assertTrue(self.check_on(titled(), Rule([TITLE], []), other))
                self.assertFalse(self.check_on(titled(), Rule([ITEM], []), other))

    def test_six_marks_in_each(self):
        words = [Form(word) for word in ("a", "b", "c", "d", "e", "f")]
        grammar = Grammar([(word, []) for word in words[:5]], list(range(5)), list(range(5)))
        self.assertTrue(self.check_on(grammar, Rule(words, []), Rule(words[:5] + [Form("g")], [])))
        self.assertFalse(self.check_on(grammar, Rule(words, []), Rule(words[1:] + [Form("g")], [])))

    def test_all_short_outputs(self):
        chance = random.Random(153)
        many = {True: 0, False: 0}
        for _ in range(250):
            rule, other = random_rule(chance), random_rule(chance)
            if chance.random() < 0.6:
                other = Rule(rule.begins()[:2] + [chance.choice(PATTERNS)][:chance.randint(0, 1)], rule.ends(),
                             most=chance.choice([rule.most, 3]), alone=chance.choice([rule.alone, True]))
            grammar = random_grammar(chance, 3, PATTERNS)
            right = self.check_on(grammar, rule, other)
            many[right] += 1
            if parted(rule, other) is None:
                self.assertTrue(right)
        self.assertGreater(min(many.values()), 40)


if __name__ == "__main__":
    unittest.main()
