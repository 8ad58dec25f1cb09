import random
import unittest

from gluedlines.cells import cells_of, is_done, moved, started
from gluedlines.patterns import Form
from gluedlines.signs import SIGNS
from support import fits, lines_over, random_form

DIGITS, WORD, ANY = Form.DIGITS, Form.WORD, Form.ANY


def closed(cells, positions):
    """Point 11's rule on positions, word by word."""
    positions = set(positions)
    while True:
        more = {k + 1 for k in positions if k < len(cells) and cells[k] == ANY} - positions
        if not more:
            return tuple(sorted(positions))
        positions |= more


def takes(cell, sign):
    if cell == DIGITS:
        return sign in "0123456789"
    if cell == WORD:
        return sign.isascii() and sign.isalpha()
    return cell == sign


def led(cells, positions, sign):
    """Point 11's rule on a sign, word by word."""
    many = len(cells)
    on = {k + 1 for k in positions if k < many and cells[k] != ANY and takes(cells[k], sign)}
    stay = {k for k in positions if k < many and cells[k] == ANY}
    more = {k for k in positions if k > 0 and cells[k - 1] in (DIGITS, WORD) and takes(cells[k - 1], sign)}
    return closed(cells, on | stay | more)


class CellsTest(unittest.TestCase):
    def test_cells_of_lists_and_tuples(self):
        self.assertEqual(cells_of(["ab", DIGITS, "-"]), ["a", "b", "<digits>", "-"])
        self.assertEqual(cells_of(("ab", DIGITS, "-")), ["a", "b", "<digits>", "-"])
        self.assertEqual(cells_of([ANY]), ["<any>"])
        self.assertEqual(cells_of((WORD, " :> ")), ["<word>", " ", ":", ">", " "])
        self.assertEqual(cells_of(["word"]), ["w", "o", "r", "d"])

    def test_cells_are_a_new_list(self):
        parts = ["ab", DIGITS]
        cells_of(parts).append("x")
        self.assertEqual(parts, ["ab", DIGITS])
        self.assertEqual(cells_of(parts), ["a", "b", DIGITS])

    def test_started(self):
        self.assertEqual(started(["a", "b"]), (0,))
        self.assertEqual(started([ANY]), (0, 1))
        self.assertEqual(started([ANY, "a"]), (0, 1))
        self.assertEqual(started(["a", ANY]), (0,))
        self.assertEqual(started([DIGITS, ANY, WORD]), (0,))

    def test_fixed_signs(self):
        cells = ["a", "b"]
        self.assertEqual(moved(cells, (0,), "a"), (1,))
        self.assertEqual(moved(cells, (1,), "b"), (2,))
        self.assertEqual(moved(cells, (2,), "b"), ())
        self.assertEqual(moved(cells, (0,), "b"), ())
        self.assertEqual(moved(cells, (), "a"), ())

    def test_digits_and_word_stand_for_more_than_one(self):
        cells = [DIGITS, "1"]
        self.assertEqual(moved(cells, (0,), "1"), (1,))
        self.assertEqual(moved(cells, (1,), "1"), (1, 2))
        self.assertEqual(moved(cells, (1, 2), "2"), (1,))
        self.assertEqual(moved([WORD], (0,), "z"), (1,))
        self.assertEqual(moved([WORD], (1,), "A"), (1,))
        self.assertEqual(moved([WORD, DIGITS], (1,), "0"), (2,))

    def test_what_cells_take(self):
        for sign in SIGNS:
            self.assertEqual(moved([DIGITS], (0,), sign), (1,) if sign.isdigit() else (), sign)
            self.assertEqual(moved([WORD], (0,), sign), (1,) if sign.isalpha() else (), sign)
            self.assertEqual(moved(["a"], (0,), sign), (1,) if sign == "a" else (), sign)
            self.assertEqual(moved([ANY], (0, 1), sign), (0, 1), sign)

    def test_any_where_it_may_stand(self):
        self.assertEqual(moved([ANY, "a"], (0, 1), "a"), (0, 1, 2))
        self.assertEqual(moved([ANY, "a"], (0, 1, 2), "b"), (0, 1))
        self.assertEqual(moved(["a", ANY, "b"], (0,), "a"), (1, 2))
        self.assertEqual(moved(["a", ANY, "b"], (1, 2), "b"), (1, 2, 3))
        self.assertEqual(moved(["a", ANY], (0,), "a"), (1, 2))
        self.assertEqual(moved(["a", ANY], (1, 2), "#"), (1, 2))
        self.assertEqual(moved([DIGITS, ANY], (0,), "5"), (1, 2))

    def test_a_sign_that_no_cell_takes(self):
        self.assertEqual(moved(["a", DIGITS], (0,), "#"), ())
        self.assertEqual(moved(["a", DIGITS], (1,), "x"), ())
        self.assertEqual(moved(["a", DIGITS], (2,), "x"), ())

    def test_is_done(self):
        self.assertIs(is_done(["a"], (0,)), False)
        self.assertIs(is_done(["a"], (1,)), True)
        self.assertIs(is_done(["a"], ()), False)
        self.assertIs(is_done([ANY], (0, 1)), True)
        self.assertIs(is_done([ANY, "a"], (0, 1, 2)), True)
        self.assertIs(is_done([ANY, "a"], (0, 1)), False)

    def test_what_is_handed_in_stays(self):
        cells, positions = ["a", ANY, "b"], (1, 2)
        self.assertEqual(moved(cells, positions, "b"), (1, 2, 3))
        self.assertEqual(started(cells), (0,))
        is_done(cells, positions)
        self.assertEqual((cells, positions), (["a", ANY, "b"], (1, 2)))

    def test_sign_by_sign_as_the_rule_says(self):
        chance = random.Random(11)
        for _ in range(300):
            cells = cells_of(random_form(chance, "ab1-").parts())
            positions = started(cells)
            self.assertEqual(positions, closed(cells, {0}))
            for sign in [chance.choice("ab1-") for _ in range(8)]:
                after = moved(cells, positions, sign)
                self.assertEqual(after, led(cells, positions, sign))
                self.assertIsInstance(after, tuple)
                positions = after

    def test_a_line_fits_if_it_leads_to_the_last_position(self):
        chance = random.Random(12)
        lines = list(lines_over("a1-", 5))
        for _ in range(60):
            form = random_form(chance, "a1-")
            cells = cells_of(form.parts())
            for line in lines:
                positions = started(cells)
                for sign in line:
                    positions = moved(cells, positions, sign)
                self.assertIs(is_done(cells, positions), fits(form, line), (str(form), line))


if __name__ == "__main__":
    unittest.main()
