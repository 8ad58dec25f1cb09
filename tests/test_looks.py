import random
import unittest

from gluedlines.looks import least_line, looks, shared_line
from gluedlines.patterns import Form
from gluedlines.scans import begin, signs_for, step
from support import fits, lines_over, random_pattern

DIGITS, WORD, ANY = Form.DIGITS, Form.WORD, Form.ANY
TITLE = Form("T", DIGITS)
NEVER = Form(DIGITS) & Form(WORD)


def states_of(forms):
    """How many states these forms reach."""
    found = [begin(forms)]
    seen = set(found)
    for state in found:
        for sign in signs_for(forms):
            after = step(forms, state, sign)
            if after not in seen:
                seen.add(after)
                found.append(after)
    return len(found)


class LeastLineTest(unittest.TestCase):
    def test_of_forms(self):
        for parts, line in [(("T", DIGITS), "T0"), ((DIGITS,), "0"), ((WORD,), "A"), ((ANY,), " "), (("b",), "b"),
                            ((ANY, "x"), "x"), (("x", ANY), "x"), ((WORD, ANY, DIGITS), "A0"), ((DIGITS, "9"), "09"),
                            ((WORD, WORD, "a", WORD), "AAaA"), (("abcd", DIGITS, "efgh", WORD), "abcd0efghA")]:
            self.assertEqual(least_line(Form(*parts)), line)

    def test_of_joined_patterns(self):
        self.assertEqual(least_line(Form("b") | Form("a")), "a")
        self.assertEqual(least_line(Form("aa") | Form("b")), "b")
        self.assertEqual(least_line(Form("T", ANY) & Form(ANY, "1")), "T1")
        self.assertEqual(least_line((Form("T", ANY) & Form(ANY, "T")) & Form(ANY, ".", WORD)), "T.T")
        self.assertEqual(least_line(Form(ANY, "ab") & Form("ba", ANY)), "bab")

    def test_fewer_signs_are_less(self):
        self.assertEqual(least_line(Form("z") | Form("  ")), "z")
        self.assertEqual(least_line(Form("a", ANY) | Form("B", WORD)), "a")

    def test_none(self):
        self.assertIsNone(least_line(NEVER))
        self.assertIsNone(least_line(Form("a") & Form("b")))
        self.assertIsNone(least_line((Form("a", ANY) & Form("b", ANY)) & Form(ANY)))

    def test_the_empty_string_is_no_line(self):
        self.assertEqual(least_line(Form(ANY)), " ")
        self.assertEqual(least_line(Form(ANY) | Form("a")), " ")
        self.assertEqual(least_line(Form(ANY) & Form(ANY)), " ")

    def test_against_all_short_lines(self):
        chance = random.Random(131)
        lines = list(lines_over(" 0A1ab", 4))
        for _ in range(150):
            pattern = random_pattern(chance, "1ab")
            expected = next((line for line in lines if fits(pattern, line)), None)
            found = least_line(pattern)
            if expected is None:
                self.assertTrue(found is None or (len(found) > 4 and fits(pattern, found)), str(pattern))
            else:
                self.assertEqual(found, expected, str(pattern))


class SharedLineTest(unittest.TestCase):
    def test_shared(self):
        self.assertEqual(shared_line(Form("T", ANY), Form(ANY, "1")), "T1")
        self.assertEqual(shared_line(Form(ANY), Form(ANY)), " ")
        self.assertEqual(shared_line(TITLE, TITLE), "T0")
        self.assertEqual(shared_line(Form(WORD, DIGITS), Form("ab", ANY)), "ab0")

    def test_none(self):
        self.assertIsNone(shared_line(Form(DIGITS), Form(WORD)))
        self.assertIsNone(shared_line(TITLE, Form("-", ANY)))
        self.assertIsNone(shared_line(NEVER, Form(ANY)))

    def test_more_than_three_forms(self):
        one = (Form("a", ANY) & Form(ANY, "b")) & Form(ANY, "1", WORD)
        other = (Form(ANY, "2", WORD) | Form("a", DIGITS, "b")) & Form(ANY)
        self.assertEqual(len(one.forms()) + len(other.forms()), 6)
        self.assertEqual(shared_line(one, other), "a1b")
        self.assertEqual(shared_line(other, one), "a1b")
        self.assertEqual((len(one.forms()), len(other.forms())), (3, 3))
        self.assertIsNone(shared_line(one, (Form("b", ANY) | Form(DIGITS)) | Form("c", ANY)))

    def test_against_all_short_lines(self):
        chance = random.Random(132)
        lines = list(lines_over(" 0A1ab", 4))
        for _ in range(100):
            one, other = random_pattern(chance, "1ab"), random_pattern(chance, "1ab")
            expected = next((line for line in lines if fits(one, line) and fits(other, line)), None)
            found = shared_line(one, other)
            if expected is not None or found is None or len(found) <= 4:
                self.assertEqual(found, expected, (str(one), str(other)))
            else:
                self.assertTrue(fits(one, found) and fits(other, found))


class LooksTest(unittest.TestCase):
    def test_without_marks(self):
        self.assertEqual(looks(TITLE, []), [((), "T0")])

    def test_one_mark(self):
        self.assertEqual(looks(Form("T", ANY), [TITLE]), [((), "T"), ((0,), "T0")])
        self.assertEqual(looks(TITLE, [Form("T", ANY)]), [((0,), "T0")])
        self.assertEqual(looks(TITLE, [Form("-", ANY)]), [((), "T0")])

    def test_a_mark_twice(self):
        self.assertEqual(looks(Form("T", ANY), [TITLE, TITLE]), [((), "T"), ((0, 1), "T0")])

    def test_six_marks(self):
        marks = [Form(ANY, c, WORD) for c in "abcdef"]
        found = looks(Form(WORD), marks)
        self.assertEqual(len(found), 64)
        self.assertEqual(found[0], ((), "A"))
        self.assertEqual(found[1], ((0,), "aA"))
        self.assertEqual(dict(found)[(0, 1, 2, 3, 4, 5)], "abcdefA")
        self.assertEqual(dict(found)[(1, 4)], "beA")

    def test_sorted_by_looks(self):
        marks = [Form("a", ANY), Form(ANY, "b"), Form(ANY, "c")]
        self.assertEqual(looks(Form(ANY), marks), [((), " "), ((0,), "a"), ((0, 1), "ab"), ((0, 2), "ac"),
                                                   ((1,), "b"), ((2,), "c")])

    def test_the_least_line_of_each(self):
        self.assertEqual(looks(Form(ANY, "-"), [Form(DIGITS, ANY), Form("-", ANY)]),
                         [((), " -"), ((0,), "0-"), ((1,), "-")])

    def test_no_line_fits(self):
        self.assertEqual(looks(NEVER, []), [])
        self.assertEqual(looks(NEVER, [Form(ANY), TITLE]), [])

    def test_marks_that_no_line_fits(self):
        self.assertEqual(looks(Form(ANY), [NEVER, Form(ANY)]), [((1,), " ")])

    def test_the_lists_stay(self):
        marks = [TITLE, Form("-", ANY)]
        kept = list(marks)
        looks(Form(ANY), marks).clear()
        self.assertTrue(len(marks) == 2 and all(one is other for one, other in zip(marks, kept)))
        self.assertEqual(len(looks(Form(ANY), marks)), 3)

    def test_against_all_short_lines(self):
        chance = random.Random(14)
        lines = list(lines_over(" 0A1ab", 4))
        for _ in range(60):
            pattern = random_pattern(chance, "1ab")
            marks = [random_pattern(chance, "1ab") for _ in range(chance.randint(0, 4))]
            expected = {}
            for line in lines:
                if fits(pattern, line):
                    look = tuple(k for k, mark in enumerate(marks) if fits(mark, line))
                    expected.setdefault(look, line)
            found = looks(pattern, marks)
            self.assertEqual(found, sorted(found))
            for look, line in found:
                self.assertEqual(look, tuple(k for k, mark in enumerate(marks) if fits(mark, line)))
                self.assertTrue(fits(pattern, line))
            short = {look: line for look, line in found if len(line) <= 4}
            self.assertEqual(short, expected, str(pattern))

    def test_up_to_5000_states(self):
        letters = [Form(ANY, c, WORD) for c in "abcdefgh"]
        long = Form("xyzw", DIGITS, "lmno", WORD)
        forms = letters + [long] * 10
        self.assertTrue(4000 < states_of(forms + [Form(ANY)]) <= 5000)
        marks = [(forms[k] | forms[k + 1]) | forms[k + 2] for k in range(0, 18, 3)]
        found = dict(looks(Form(ANY), marks))
        self.assertEqual(len(found), 12)
        self.assertEqual(found[(0, 1, 2)], "adgA")
        self.assertEqual(found[(2, 3, 4, 5)], "xyzw0lmnoA")


if __name__ == "__main__":
    unittest.main()
