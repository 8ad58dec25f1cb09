import random
import unittest

from gluedlines.errors import NoForm
from gluedlines.patterns import Both, Either, Form, Pattern
from support import fits, lines_over, random_form, random_pattern

DIGITS, WORD, ANY = Form.DIGITS, Form.WORD, Form.ANY
A, B, C = Form("a", ANY), Form(ANY, "b"), Form(DIGITS)


class FormTest(unittest.TestCase):
    def refused(self, at, *parts):
        with self.assertRaises(NoForm) as caught:
            Form(*parts)
        self.assertEqual(caught.exception.at, at, parts)
        self.assertIs(type(caught.exception.at), type(at))

    def test_the_three_values(self):
        self.assertEqual((Form.DIGITS, Form.WORD, Form.ANY), ("<digits>", "<word>", "<any>"))

    def test_forms_of_one_to_four_parts(self):
        for parts in [("a",), ("abcd",), (" ",), (DIGITS,), (WORD,), (ANY,), ("a", DIGITS), (DIGITS, DIGITS),
                      (WORD, WORD, WORD, WORD), ("a", ANY, "b"), (ANY, "b", WORD, "c"), ("a", DIGITS, "b", ANY),
                      ("# .-", DIGITS, ":> 0", WORD), (DIGITS, ANY, DIGITS)]:
            form = Form(*parts)
            self.assertEqual(form.parts(), parts)
            self.assertIsInstance(form.parts(), tuple)
            self.assertEqual(str(form), "".join(parts))

    def test_no_part(self):
        self.refused(None)

    def test_parts_that_are_never_allowed(self):
        for part in ["", "abcde", "a_b", "a\n", "<", "\u00e9", "<digit>", "<DIGITS>", "< any>", "<any> ", "<word", "&",
                     None, 0, 1, True, 2.5, b"a", ["a"], ("a",), [], {}]:
            self.refused(0, part)
            self.refused(0, part, "a")
            self.refused(1, DIGITS, part)
            self.refused(1, "a", part)
            self.refused(3, "a", WORD, "b", part)

    def test_the_first_part_not_allowed_counts(self):
        self.refused(1, "a", "b")
        self.refused(1, "a", "b", None)
        self.refused(0, "", "b", "c")
        self.refused(2, ANY, "b", ANY)
        self.refused(1, ANY, ANY)
        self.refused(3, ANY, DIGITS, "a", ANY)
        self.refused(3, DIGITS, DIGITS, "a", "b")

    def test_the_fifth_part(self):
        self.refused(4, "a", DIGITS, "b", WORD, ANY)
        self.refused(4, WORD, WORD, WORD, WORD, WORD)
        self.refused(4, WORD, WORD, WORD, WORD, None, "a", "b")
        self.refused(1, "a", "b", "c", "d", "e")

    def test_fits_is_true_or_false(self):
        self.assertIs("T12" in Form("T", DIGITS), True)
        self.assertIs("T" in Form("T", DIGITS), False)
        self.assertIs("-" in Form("-", ANY), True)

    def test_one_or_more_digits_and_letters(self):
        for form, good, bad in [(Form(DIGITS), ["0", "99", "0123456789"], ["", "a", "1a", "-1"]),
                                (Form(WORD), ["a", "Zz", "abcXYZ"], ["", "1", "a1", "a b"]),
                                (Form("T", DIGITS), ["T1", "T12"], ["T", "1", "T1 ", "t1"]),
                                (Form(WORD, DIGITS), ["a1", "ab12"], ["a", "1", "1a", "a1b"])]:
            for line in good:
                self.assertTrue(line in form, (str(form), line))
            for line in bad:
                self.assertFalse(line in form, (str(form), line))

    def test_any_stands_for_none_too(self):
        for line in ["a", "ab", "a#: >"]:
            self.assertTrue(line in A)
        for line in ["ab", "aab", "a b"]:
            self.assertTrue(line in Form("a", ANY, "b"))
        self.assertFalse("b" in Form("a", ANY))
        self.assertTrue(" " in Form(ANY))

    def test_lines_that_can_be_split_in_several_ways(self):
        self.assertTrue("11" in Form(DIGITS, DIGITS))
        self.assertFalse("1" in Form(DIGITS, DIGITS))
        self.assertTrue("111" in Form(DIGITS, "1", DIGITS))
        self.assertTrue("abab" in Form(ANY, "ab"))
        self.assertTrue("aaa" in Form(WORD, "a"))
        self.assertFalse("a" in Form(WORD, "a"))
        self.assertTrue("1234" in Form(DIGITS, ANY, DIGITS, DIGITS))

    def test_what_is_no_line_fits_nothing(self):
        for thing in ["", "a\n", "a_b", "\u0661", None, 3, b"a", ["a"]]:
            for pattern in [Form(ANY), Form(ANY) & Form(ANY), Form(ANY) | Form(DIGITS)]:
                self.assertIs(thing in pattern, False, thing)

    def test_long_lines(self):
        self.assertTrue("a" * 199 + "b" * 201 in Form("a", ANY, "bb"))
        self.assertFalse("a" * 400 in Form(WORD, "a", WORD, "b"))

    def test_against_regular_expressions(self):
        chance = random.Random(6)
        lines = list(lines_over("a1-", 5))
        for _ in range(80):
            form = random_form(chance, "a1-")
            for line in lines:
                self.assertIs(line in form, fits(form, line), (str(form), line))


class JoinedTest(unittest.TestCase):
    def test_classes(self):
        self.assertIsInstance(A & B, Both)
        self.assertIsInstance(A | B, Either)
        for kind in (Form, Both, Either):
            self.assertEqual(kind.__bases__, (Pattern,))
        self.assertTrue(Both(A, B) == A & B)
        self.assertTrue(Either(A, B) == A | B)

    def test_both_orders_and_nested(self):
        self.assertTrue("ab" in A & B and "ab" in B & A)
        self.assertFalse("a" in A & B or "a" in B & A)
        self.assertTrue("a" in A | B and "a" in B | A and "b" in A | B and "ab" in A | B)
        self.assertFalse("c" in A | B)
        self.assertTrue("7" in (A & B) | C)
        self.assertTrue("ab" in (A & B) | C)
        self.assertFalse("a" in (A & B) | C)
        self.assertFalse("7" in A & (B | C))
        self.assertTrue("ab" in A & (B | C))

    def test_fits_is_true_or_false(self):
        for pattern in (A & B, A | B, (A & B) | C, A & (B | C)):
            for line in ("a", "b", "ab", "7", "-"):
                self.assertIs(line in pattern, fits(pattern, line))

    def test_forms_from_left_to_right(self):
        self.assertEqual([str(form) for form in A.forms()], ["a<any>"])
        self.assertEqual([str(form) for form in (A & B).forms()], ["a<any>", "<any>b"])
        self.assertEqual([str(form) for form in ((A | B) & C).forms()], ["a<any>", "<any>b", "<digits>"])
        self.assertEqual([str(form) for form in (C & (A | B)).forms()], ["<digits>", "a<any>", "<any>b"])
        self.assertEqual([str(form) for form in (A & A).forms()], ["a<any>", "a<any>"])
        self.assertTrue(all(isinstance(form, Form) for form in (C & (A | B)).forms()))

    def test_forms_are_a_new_list(self):
        for pattern in (A, A & B, A | B, (A | B) & C):
            many = len(pattern.forms())
            pattern.forms().clear()
            pattern.forms().append(C)
            self.assertEqual(len(pattern.forms()), many)

    def test_holds(self):
        self.assertIs(A.holds([True]), True)
        self.assertIs(A.holds([False]), False)
        for x in (True, False):
            for y in (True, False):
                self.assertIs((A & B).holds([x, y]), x and y)
                self.assertIs((A | B).holds([x, y]), x or y)
                for z in (True, False):
                    self.assertIs(((A & B) | C).holds([x, y, z]), (x and y) or z)
                    self.assertIs((A & (B | C)).holds([x, y, z]), x and (y or z))
                    self.assertIs(((A | B) & C).holds([x, y, z]), (x or y) and z)
                    self.assertIs((A | (B & C)).holds([x, y, z]), x or (y and z))

    def test_holds_leaves_the_list(self):
        told = [True, False, True]
        ((A & B) | C).holds(told)
        self.assertEqual(told, [True, False, True])

    def test_texts(self):
        self.assertEqual(str(A & B), "(a<any> & <any>b)")
        self.assertEqual(str(A | B), "(a<any> | <any>b)")
        self.assertEqual(str((A | B) & C), "((a<any> | <any>b) & <digits>)")
        self.assertEqual(str(A | (B & C)), "(a<any> | (<any>b & <digits>))")
        self.assertEqual(str(Form(" ") & Form("x ")), "(  & x )")

    def test_equality_by_texts(self):
        self.assertIs(Form("a", DIGITS) == Form("a", DIGITS), True)
        self.assertIs(Form("a", DIGITS) == Form("a", WORD), False)
        self.assertIs(A & B == Both(Form("a", ANY), Form(ANY, "b")), True)
        self.assertIs(A & B == B & A, False)
        self.assertIs(A | B == Either(Form("a", ANY), Form(ANY, "b")), True)
        self.assertIs(A | B == B | A, False)
        self.assertIs(A == A | A, False)
        self.assertIs(A & B == A | B, False)
        self.assertIs((A & B) & C == A & (B & C), False)
        self.assertIs(A & A == A, False)
        self.assertIs(A != Form("a", ANY), False)
        self.assertIs(A != B, True)

    def test_a_pattern_equals_nothing_else(self):
        for pattern in (A, A & B, A | B):
            for thing in (str(pattern), None, 0, True, [pattern], pattern.forms(), ("a", ANY), object()):
                self.assertIs(pattern == thing, False)
                self.assertIs(pattern != thing, True)

    def test_three_forms_are_allowed_four_are_not(self):
        pairs = [A & B, A | B]
        threes = [pair & C for pair in pairs] + [C | pair for pair in pairs]
        self.assertEqual([len(three.forms()) for three in threes], [3] * 4)
        tries = [(pair, pair) for pair in pairs] + [(three, A) for three in threes] + [(A, three) for three in threes]
        for one, other in tries + [(three, three) for three in threes]:
            before = (str(one), str(other), len(one.forms()), len(other.forms()))
            for make in (Both, Either, lambda x, y: x & y, lambda x, y: x | y):
                with self.assertRaises(NoForm) as caught:
                    make(one, other)
                self.assertEqual(caught.exception.at, 3)
            self.assertEqual((str(one), str(other), len(one.forms()), len(other.forms())), before)

    def test_against_regular_expressions(self):
        chance = random.Random(8)
        lines = list(lines_over("a1-", 4))
        for _ in range(120):
            pattern = random_pattern(chance, "a1-")
            for line in lines:
                told = [line in form for form in pattern.forms()]
                self.assertIs(line in pattern, fits(pattern, line), (str(pattern), line))
                self.assertIs(pattern.holds(told), fits(pattern, line), (str(pattern), line))


if __name__ == "__main__":
    unittest.main()
