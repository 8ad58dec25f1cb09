import random
import unittest

from gluedlines.faces import faces
from gluedlines.patterns import Form
from gluedlines.rules import Rule
from support import DOT, ITEM, TITLE, fits, lines_over, random_pattern

ANY = Form(Form.ANY)
ONE, TWO = Form("a", Form.ANY), Form(Form.ANY, "b")


class FacesTest(unittest.TestCase):
    def test_each_of_the_four_faces(self):
        self.assertEqual(faces(ANY, Rule([ONE], [TWO])),
                         [((False, False), " "), ((False, True), "b"), ((True, False), "a"), ((True, True), "ab")])
        self.assertEqual(faces(TITLE, Rule([ONE], [TWO])), [((False, False), "T0")])
        self.assertEqual(faces(Form("a"), Rule([ONE], [TWO])), [((True, False), "a")])
        self.assertEqual(faces(Form("b"), Rule([ONE], [TWO])), [((False, True), "b")])
        self.assertEqual(faces(Form("ab"), Rule([ONE], [TWO])), [((True, True), "ab")])

    def test_no_marks(self):
        self.assertEqual(faces(TITLE, Rule([], [])), [((False, False), "T0")])

    def test_a_mark_in_both_lists(self):
        self.assertEqual(faces(DOT | ITEM, Rule([DOT], [DOT])), [((False, False), "-"), ((True, True), ".")])
        self.assertEqual(faces(TITLE, Rule([ANY], [ANY])), [((True, True), "T0")])

    def test_several_marks_the_least_line(self):
        rule = Rule([Form("aaa"), Form("c"), Form("ab")], [])
        self.assertEqual(faces(Form(Form.WORD), rule), [((False, False), "A"), ((True, False), "c")])
        self.assertEqual(faces(Form("a", Form.ANY), rule), [((False, False), "a"), ((True, False), "ab")])

    def test_six_marks(self):
        rule = Rule([Form("a"), Form("b"), Form("c")], [Form("c"), Form("d"), Form("e")])
        self.assertEqual(faces(Form(Form.WORD), rule), [((False, False), "A"), ((False, True), "d"),
                                                        ((True, False), "a"), ((True, True), "c")])

    def test_settings_change_nothing(self):
        told = faces(ANY, Rule([ONE], [TWO]))
        for settings in ({"most": 1}, {"alone": False}, {"tags": 3}, {"quiet": True}):
            self.assertEqual(faces(ANY, Rule([ONE], [TWO], **settings)), told)

    def test_told_lists_may_be_changed(self):
        rule = Rule([ONE], [])
        faces(ANY, rule).clear()
        self.assertEqual(len(faces(ANY, rule)), 2)

    def test_all_short_lines(self):
        chance = random.Random(41)
        for _ in range(60):
            pattern = random_pattern(chance, "ab")
            begins, ends = ([random_pattern(chance, "ab") for _ in range(chance.randint(0, 2))] for _ in range(2))
            least = {}
            for line in lines_over(" 0Aab", 3):
                if fits(pattern, line):
                    face = (any(fits(mark, line) for mark in begins), any(fits(mark, line) for mark in ends))
                    least.setdefault(face, line)
            told = faces(pattern, Rule(begins, ends))
            self.assertEqual([(face, line) for face, line in told if len(line) < 4], sorted(least.items()))
            for face, line in told:
                self.assertTrue(fits(pattern, line))
                self.assertEqual(face, (any(fits(mark, line) for mark in begins), any(fits(mark, line) for mark in ends)))


if __name__ == "__main__":
    unittest.main()
