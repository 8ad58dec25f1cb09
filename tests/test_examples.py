"""The examples of the document."""

import unittest

from gluedlines.crews import Crew
from gluedlines.crewverdicts import breaking_number, crew_wrong
from gluedlines.errors import NoForm, NoText
from gluedlines.faces import faces
from gluedlines.gluers import Gluer, glue
from gluedlines.grammars import Grammar
from gluedlines.leastrules import least_rules, why_none
from gluedlines.looks import least_line, looks, shared_line
from gluedlines.outputs import cuts_of
from gluedlines.patterns import Form
from gluedlines.patterntexts import read_pattern
from gluedlines.readings import ahead_needed, two_readings
from gluedlines.rules import Rule
from gluedlines.verdicts import is_right, pair_table, wrong_output
from gluedlines.ways import ways


class ExamplesTest(unittest.TestCase):
    def test_text(self):
        self.assertEqual(str(Form("T", Form.DIGITS) | Form("-", Form.ANY)), "(T<digits> | -<any>)")

    def test_fits(self):
        title = Form("T", Form.DIGITS)
        self.assertEqual(["T12" in title, "T" in title, "-" in Form("-", Form.ANY)], [True, False, True])

    def test_no_form(self):
        with self.assertRaises(NoForm) as caught:
            Form("a", "b")
        self.assertEqual(caught.exception.at, 1)

    def test_no_text(self):
        with self.assertRaises(NoText) as caught:
            read_pattern("(a &b)")
        self.assertEqual(caught.exception.text, "(a &b)")

    def test_looks(self):
        title = Form("T", Form.DIGITS)
        told = [least_line(title), shared_line(Form("T", Form.ANY), Form(Form.ANY, "1")),
                looks(Form("T", Form.ANY), [title])]
        self.assertEqual(told, ["T0", "T1", [((), "T"), ((0,), "T0")]])

    def test_grammar(self):
        grammar = Grammar([(Form("T", Form.DIGITS), [1]), (Form("-", Form.ANY), [1])], [0], [0, 1])
        told = [grammar.longest(), list(ways(grammar, 3)), list(cuts_of(grammar, ["T1", "-", "T2"]))]
        self.assertEqual(told, [None, [(0,), (0, 1), (0, 1, 1)], [(2, 1)]])

    def test_glue(self):
        told = glue(Rule.by_first(Form("T", Form.DIGITS)), ["T1", "-", "T2", "-", "-"])
        self.assertEqual(told, [["T1", "-"], ["T2", "-", "-"]])

    def test_gluer(self):
        gluer = Gluer(Rule([], [Form(".")], tags=0))
        first = gluer("x", 0)
        second = gluer("y", 1)
        third = gluer(".", 0)
        told = [first, second, third, gluer.finish(), gluer.many]
        self.assertEqual(told, [[], [], [(0, ["x", "."])], [(1, ["y"])], 2])

    def test_faces(self):
        told = faces(Form("T", Form.ANY), Rule.by_first(Form("T", Form.DIGITS)))
        self.assertEqual(told, [((False, False), "T"), ((True, False), "T0")])

    def test_verdicts(self):
        grammar = Grammar([(Form("T", Form.DIGITS), [1]), (Form("-", Form.ANY), [1])], [0], [0, 1])
        told = [is_right(grammar, Rule.by_first(Form("T", Form.DIGITS))),
                len(wrong_output(grammar, Rule.every_line())[0])]
        self.assertEqual(told, [True, 2])

    def test_pair_table(self):
        grammar = Grammar([(Form("T", Form.DIGITS), [1]), (Form("-", Form.ANY), [1])], [0], [0, 1])
        self.assertEqual(pair_table(grammar, Rule.by_first(Form("T", Form.DIGITS))), [
            ("between", 0, 0, (True, False), (True, False), True),
            ("between", 1, 0, (False, False), (True, False), True),
            ("inside", 0, 1, (True, False), (False, False), False),
            ("inside", 1, 1, (False, False), (False, False), False)])

    def test_least_rules(self):
        grammar = Grammar([(Form("T", Form.DIGITS), [1]), (Form("-", Form.ANY), [1])], [0], [0, 1])
        marks = [Form("T", Form.DIGITS), Form("-", Form.ANY)]
        self.assertEqual([least_rules(grammar, marks), why_none(grammar, marks)], [[((0,), ())], None])

    def test_readings(self):
        grammar = Grammar([(Form("T", Form.DIGITS), [1]), (Form("-", Form.ANY), [1])], [0], [0, 1])
        self.assertEqual([ahead_needed(grammar), two_readings(grammar)], [1, None])

    def test_crews(self):
        grammar = Grammar([(Form("T", Form.DIGITS), [1]), (Form("-", Form.ANY), [1])], [0], [0, 1])
        title = Form("T", Form.DIGITS)
        told = [crew_wrong(Crew(grammar, grammar), Rule([title], [], tags=0)),
                crew_wrong(Crew(grammar, grammar, at_once=True), Rule([title], [])),
                breaking_number(grammar, Rule([title], [])), breaking_number(grammar, Rule([title], [], tags=2))]
        self.assertEqual(told, [None, None, 2, 3])


if __name__ == "__main__":
    unittest.main()
