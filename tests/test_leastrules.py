import itertools
import random
import unittest

from gluedlines.grammars import Grammar
from gluedlines.leastrules import least_rules, why_none
from gluedlines.patterns import Form
from gluedlines.rules import Rule
from gluedlines.verdicts import is_right
from support import DOT, ITEM, TITLE, fits, random_grammar, titled

TEXT = Form("T", Form.ANY)
LINES = ["T", "T1", "-", ".", "x", "xx"]
PATTERNS = (TITLE, ITEM, DOT, TEXT, DOT | Form("x"))
MARKS = PATTERNS + (Form("x"), Form("x", Form.ANY), Form(Form.ANY, "1"), Form("nono"))


def least_by_trying(grammar, marks):
    """All least choices, by trying all of them."""
    sets = [chosen for many in range(len(marks) + 1) for chosen in itertools.combinations(range(len(marks)), many)]
    right = [(begins, ends) for begins in sets for ends in sets if len(begins) + len(ends) <= 6
             and is_right(grammar, Rule([marks[k] for k in begins], [marks[k] for k in ends]))]
    return sorted(one for one in right if not any(
        other != one and set(other[0]) <= set(one[0]) and set(other[1]) <= set(one[1]) for other in right))


def lines_of(grammar, nodes):
    """All lines that some of these nodes may have."""
    return [line for line in LINES if any(fits(grammar[k], line) for k in nodes)]


class LeastRulesCase(unittest.TestCase):
    def check(self, grammar, marks):
        told = least_rules(grammar, marks)
        self.assertEqual(told, sorted(set(told)))
        why = why_none(grammar, marks)
        if told:
            self.assertIsNone(why)
        else:
            self.check_why(grammar, marks, why)
        return told

    def check_why(self, grammar, marks, why):
        self.assertIsInstance(why, tuple)
        (first, line), (last, other) = why
        self.assertIn(first, grammar.firsts())
        self.assertIn(last, grammar.lasts())
        self.assertIn(line, grammar[first])
        self.assertIn(other, grammar[last])
        inner = lines_of(grammar, [after for k in range(len(grammar)) for after in grammar.nexts(k)])
        early = lines_of(grammar, [k for k in range(len(grammar)) if grammar.nexts(k)])
        for mark in marks:
            if line in mark:
                self.assertTrue(any(fits(mark, found) for found in inner), (mark, why))
            if other in mark:
                self.assertTrue(any(fits(mark, found) for found in early), (mark, why))


class LeastRulesTest(LeastRulesCase):
    def test_titles(self):
        self.assertEqual(self.check(titled(), [TITLE, ITEM]), [((0,), ())])
        self.assertEqual(self.check(titled(), [ITEM, TITLE]), [((1,), ())])
        self.assertEqual(self.check(titled(), [TITLE]), [((0,), ())])

    def test_last_lines(self):
        grammar = Grammar([(ITEM, [0, 1]), (DOT, [])], [0], [1])
        self.assertEqual(self.check(grammar, [ITEM, DOT]), [((), (1,))])

    def test_both(self):
        grammar = Grammar([(TITLE, [1]), (ITEM, [1, 2]), (DOT, [])], [0], [2])
        self.assertEqual(self.check(grammar, [DOT, TITLE]), [((), (0,)), ((1,), ())])

    def test_several_marks_are_needed(self):
        grammar = Grammar([(TITLE | DOT, [1]), (ITEM, [1])], [0], [0, 1])
        self.assertEqual(self.check(grammar, [TITLE, DOT, ITEM]), [((0, 1), ())])
        self.assertEqual(self.check(grammar, [TITLE, DOT, TITLE | DOT]), [((0, 1), ()), ((2,), ())])
        self.assertEqual(self.check(grammar, [TITLE | DOT, TITLE, Form("T", Form.ANY), DOT]),
                         [((0,), ()), ((1, 3), ()), ((2, 3), ())])

    def test_marks_that_stand_twice(self):
        self.assertEqual(self.check(titled(), [TITLE, TITLE]), [((0,), ()), ((1,), ())])
        lone = Grammar([(DOT, [])], [0], [0])
        self.assertEqual(self.check(lone, [DOT, DOT]), [((), (0,)), ((), (1,)), ((0,), ()), ((1,), ())])

    def test_marks_that_no_line_fits(self):
        self.assertEqual(self.check(titled(), [Form("x"), TITLE, Form("a") & Form("b")]), [((1,), ())])
        self.assertEqual(self.check(titled(), [Form("x")]), [])

    def test_why_none(self):
        # Each line may be any of a record.
        ring = Grammar([(Form(Form.ANY), [0])], [0], [0])
        self.assertEqual(self.check(ring, [TITLE, DOT]), [])
        grammar = Grammar([(TEXT, [1]), (Form("T"), [])], [0], [0, 1])
        self.assertEqual(self.check(grammar, [TEXT, TITLE]), [])
        self.assertEqual(why_none(grammar, [TEXT, TITLE])[0], (0, "T"))

    def test_five_marks(self):
        grammar = Grammar([(Form(Form.DIGITS) | Form("a") | Form("b"), [])], [0], [0])
        marks = [Form("a"), Form("b"), Form(Form.DIGITS), Form(Form.WORD), Form(Form.ANY)]
        some = [(0, 1, 2), (2, 3), (4,)]
        self.assertEqual(self.check(grammar, marks), sorted([(one, ()) for one in some] + [((), one) for one in some]))

    def test_told_lists_may_be_changed(self):
        grammar = titled()
        least_rules(grammar, [TITLE]).clear()
        self.assertEqual(least_rules(grammar, [TITLE]), [((0,), ())])

    def test_all_choices(self):
        chance = random.Random(61)
        many = {}
        for _ in range(200):
            grammar = random_grammar(chance, 3, PATTERNS)
            marks = [chance.choice(MARKS) for _ in range(chance.choice([1, 2, 2, 3, 3]))]
            told = self.check(grammar, marks)
            self.assertEqual(told, least_by_trying(grammar, marks))
            self.assertTrue(all(not begins or not ends for begins, ends in told))
            many[len(told) > 0] = many.get(len(told) > 0, 0) + 1
        self.assertGreater(min(many[True], many[False]), 9)

    def test_all_choices_of_four_and_five_marks(self):
        chance = random.Random(62)
        for many in (4, 5):
            grammar = random_grammar(chance, 2, PATTERNS[:4])
            marks = [chance.choice(MARKS[:5]) for _ in range(many)]
            self.assertEqual(self.check(grammar, marks), least_by_trying(grammar, marks))


if __name__ == "__main__":
    unittest.main()
