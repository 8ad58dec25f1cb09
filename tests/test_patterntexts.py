import itertools
import random
import unittest

from gluedlines.errors import NoForm, NoText
from gluedlines.patterns import Both, Either, Form
from gluedlines.patterntexts import read_pattern
from gluedlines.signs import SIGNS
from support import random_pattern

DIGITS, WORD, ANY = Form.DIGITS, Form.WORD, Form.ANY


def shape(pattern):
    """The pattern as nested tuples, down to the parts."""
    if isinstance(pattern, Form):
        return pattern.parts()
    return (type(pattern), shape(pattern._one), shape(pattern._other))


class ReadPatternTest(unittest.TestCase):
    def reads(self, pattern):
        read = read_pattern(str(pattern))
        self.assertTrue(read == pattern, str(pattern))
        self.assertEqual(shape(read), shape(pattern))

    def refused(self, text, at=None):
        """NoText, raised from NoForm(at[0]) if at is given, else from nothing."""
        with self.assertRaises(NoText) as caught:
            read_pattern(text)
        self.assertIs(caught.exception.text, text)
        cause = caught.exception.__cause__
        if at is None:
            self.assertIsNone(cause, text)
        else:
            self.assertIsInstance(cause, NoForm, text)
            self.assertEqual(cause.at, at, text)

    def test_forms(self):
        for parts in [("a",), ("abcd",), (DIGITS,), (WORD,), (ANY,), ("T", DIGITS), ("-", ANY), (DIGITS, DIGITS),
                      (ANY, "x", WORD, "y"), ("a", DIGITS, "b", WORD), ("any",), ("word", WORD)]:
            self.reads(Form(*parts))
            self.assertEqual(read_pattern("".join(parts)).parts(), parts)

    def test_signs_that_look_like_more(self):
        for text in ["#", "-", ".", ":", ">", " ", "    ", " # ", "->", ">>", "a b", "-.:>", "any>", ":: ", "> a"]:
            self.reads(Form(text))
            for part in (DIGITS, WORD, ANY):
                self.reads(Form(text, part))
                self.reads(Form(part, text))
                self.reads(Form(text, part, text))
                self.reads(Form(text, part) & Form(part, text))
                self.reads(Form(part, text) | Form(text, part))
                self.reads((Form(text) | Form(text)) & Form(text))

    def test_two_and_three_forms(self):
        forms = [Form("a "), Form(" ", ANY), Form(DIGITS, " ")]
        for x, y, z in itertools.product(forms, repeat=3):
            for outer, inner in itertools.product((Both, Either), repeat=2):
                self.reads(inner(x, y))
                self.reads(outer(inner(x, y), z))
                self.reads(outer(x, inner(y, z)))

    def test_patterns_at_random(self):
        chance = random.Random(10)
        for _ in range(500):
            self.reads(random_pattern(chance, SIGNS, 4))

    def test_blanks_beside_the_sign(self):
        self.assertEqual([form.parts() for form in read_pattern("(a  &  b)").forms()], [("a ",), (" b",)])
        self.assertEqual([form.parts() for form in read_pattern("(  |  )").forms()], [(" ",), (" ",)])
        self.assertEqual([form.parts() for form in read_pattern("(<any>  | b )").forms()], [(ANY, " "), ("b ",)])

    def test_a_sign_blank_or_bracket_wrong(self):
        for text in ["(a &b)", "(a& b)", "(a&b)", "(&b)", "( & b)", "(a & )", "(a &)", "a & b", "(a & b", "a & b)",
                     "(a b)", "(a)", "()", "(", ")", "((a & b)", "(a & b))", "((a & b))", ")a & b(", "(a) & (b)",
                     "(a && b)", "(a & | b)", "(a & b & c)", "(a | b & c)", "(a & (b | c)", "(a & b | c))",
                     "(a & b) ", " (a & b)", "(a ( b)", "(a ) b)", "(a & (b))", "((a) & b)", "[a & b]", "(a + b)",
                     "((a & b)& c)", "((a & b) &c)", "((a & b)  & c)", "(a &  (b & c))", "(a & (b & c) )",
                     "( (a & b) & c)", "&", "|", " & ", "(& & &)", "(a & b)(c & d)", "()( & b)", "(a & b) & (c)"]:
            self.refused(text)

    def test_the_empty_text(self):
        self.refused("")

    def test_four_forms(self):
        for text in ["((a & b) & (c & d))", "(((a & b) & c) & d)", "(a | (b | (c | d)))", "((a & (b | c)) & d)"]:
            self.refused(text)

    def test_signs_that_are_none(self):
        for text in ["a_b", "a\n", "\t", "caf\u00e9", "<", "<a>", "<digit>", "<digits", "<Digits>", "< any>", "<<any>",
                     "(a & b_)", "(a_ | b)", "a<any", "<any><", "\u0661", "a%"]:
            self.refused(text)

    def test_shapes_of_forms_that_are_not_allowed(self):
        self.refused("abcde", 0)
        self.refused("     ", 0)
        self.refused("<digits>abcde", 1)
        self.refused("<any><any>", 1)
        self.refused("<any>a<any>", 2)
        self.refused("a<digits>b<digits>c", 4)
        self.refused("<word><word><word><word><word>", 4)
        self.refused("a<any>abcde<any>b<any>", 2)

    def test_forms_that_are_not_allowed_inside_brackets(self):
        for text in ["(abcde & b)", "(a | <any><any>)", "((a & abcde) & b)", "(a & (b | a<digits>b<digits>c))"]:
            self.refused(text)

    def test_other_values(self):
        for thing in [None, 3, b"a", ["a"]]:
            self.refused(thing)

    def test_many_brackets(self):
        for text in ["(" * 5000, "(" * 2000 + "a" + ")" * 2000, "(a & " * 1000 + "a" + ")" * 1000, "a" * 5000 + "_"]:
            self.refused(text)

    def test_every_text_that_is_read_is_the_text_of_what_is_read(self):
        pieces = ["a", " ", "(", ")", "&", " & ", " | ", ANY]
        for many in range(1, 6):
            for text in map("".join, itertools.product(pieces, repeat=many)):
                try:
                    pattern = read_pattern(text)
                except NoText as error:
                    self.assertEqual(error.text, text)
                else:
                    self.assertEqual(str(pattern), text)


if __name__ == "__main__":
    unittest.main()
