"""The examples of the document."""

import unittest

from gluedlines.errors import NoForm, NoText
from gluedlines.grammars import Grammar
from gluedlines.looks import least_line, looks, shared_line
from gluedlines.patterns import Form
from gluedlines.patterntexts import read_pattern
from gluedlines.ways import ways


class ExamplesTest(unittest.TestCase):
    def test_text(self):
        self.assertEqual(str(Form("T", Form.DIGITS) | Form("-", Form.ANY)), "(T<digits> | -<any>)")

    def test_fits(self):
        title = Form("T", Form.DIGITS)
        self.assertEqual(["T12" in title, "T" in title, "-" in Form("-", Form.ANY)], [True, False, True])

    def test_no_form(self):
        with self.assertRaises(NoForm) as caught:
            Form("a", "b")
        self.assertEqual(caught.exception.at, 1)

    def test_no_text(self):
        with self.assertRaises(NoText) as caught:
            read_pattern("(a &b)")
        self.assertEqual(caught.exception.text, "(a &b)")

    def test_looks(self):
        title = Form("T", Form.DIGITS)
        told = [least_line(title), shared_line(Form("T", Form.ANY), Form(Form.ANY, "1")),
                looks(Form("T", Form.ANY), [title])]
        self.assertEqual(told, ["T0", "T1", [((), "T"), ((0,), "T0")]])

    def test_grammar(self):
        grammar = Grammar([(Form("T", Form.DIGITS), [1]), (Form("-", Form.ANY), [1])], [0], [0, 1])
        self.assertEqual([grammar.longest(), list(ways(grammar, 3))], [None, [(0,), (0, 1), (0, 1, 1)]])


if __name__ == "__main__":
    unittest.main()
