import random
import unittest

from gluedlines.patterns import Form
from gluedlines.scans import begin, signs_for, step, truths
from gluedlines.signs import SIGNS
from support import fits, lines_over, random_form

DIGITS, WORD, ANY = Form.DIGITS, Form.WORD, Form.ANY


def after(forms, line):
    state = begin(forms)
    for sign in line:
        state = step(forms, state, sign)
    return state


class StatesTest(unittest.TestCase):
    def test_no_form(self):
        self.assertEqual(begin([]), ())
        self.assertEqual(step([], (), "a"), ())
        self.assertEqual(truths([], ()), [])

    def test_one_form(self):
        form = Form("a", ANY)
        self.assertEqual(begin([form]), ((0,),))
        self.assertEqual(truths([form], ((0,),)), [False])
        self.assertEqual(step([form], ((0,),), "a"), ((1, 2),))
        self.assertEqual(truths([form], ((1, 2),)), [True])
        self.assertEqual(step([form], ((1, 2),), "#"), ((1, 2),))
        self.assertEqual(step([form], ((0,),), "b"), ((),))
        self.assertEqual(truths([form], ((),)), [False])

    def test_several_forms(self):
        forms = [Form(ANY), Form("a", DIGITS), Form(WORD, "1")]
        self.assertEqual(begin(forms), ((0, 1), (0,), (0,)))
        self.assertEqual(truths(forms, begin(forms)), [True, False, False])
        state = step(forms, begin(forms), "a")
        self.assertEqual(state, ((0, 1), (1,), (1,)))
        state = step(forms, state, "1")
        self.assertEqual(state, ((0, 1), (2,), (2,)))
        self.assertEqual(truths(forms, state), [True, True, True])
        self.assertEqual(step(forms, state, "1"), ((0, 1), (2,), ()))

    def test_the_start_may_be_true(self):
        self.assertEqual(truths([Form(ANY)], begin([Form(ANY)])), [True])

    def test_kinds(self):
        forms = [Form(ANY), Form("a")]
        for state in (begin(forms), step(forms, begin(forms), "a")):
            self.assertIsInstance(state, tuple)
            self.assertTrue(all(isinstance(positions, tuple) for positions in state))
        told = truths(forms, begin(forms))
        self.assertIs(told[0], True)
        self.assertIs(told[1], False)

    def test_a_state_is_good_for_another_step(self):
        forms = [Form("a", ANY), Form(WORD)]
        state = step(forms, begin(forms), "a")
        first = step(forms, state, "b")
        step(forms, state, "1")
        self.assertEqual(state, ((1, 2), (1,)))
        self.assertEqual(step(forms, state, "b"), first)
        self.assertEqual(len(forms), 2)

    def test_truths_are_a_new_list(self):
        forms = [Form(ANY)]
        truths(forms, begin(forms)).clear()
        self.assertEqual(truths(forms, begin(forms)), [True])

    def test_against_regular_expressions(self):
        chance = random.Random(12)
        lines = list(lines_over("a1-", 4))
        for _ in range(30):
            forms = [random_form(chance, "a1-") for _ in range(chance.randint(0, 4))]
            for line in lines:
                self.assertEqual(truths(forms, after(forms, line)), [fits(form, line) for form in forms])


class SignsForTest(unittest.TestCase):
    def test_no_form(self):
        self.assertEqual(signs_for([]), [" ", "0", "A"])

    def test_without_fixed_texts(self):
        self.assertEqual(signs_for([Form(ANY), Form(DIGITS, WORD)]), [" ", "0", "A"])

    def test_fixed_signs_and_the_least_others(self):
        self.assertEqual(signs_for([Form("T", DIGITS)]), [" ", "0", "A", "T"])
        self.assertEqual(signs_for([Form("A"), Form("0 ")]), [" ", "#", "0", "1", "A", "B"])
        self.assertEqual(signs_for([Form("10")]), [" ", "0", "1", "2", "A"])
        self.assertEqual(signs_for([Form("za"), Form("za")]), [" ", "0", "A", "a", "z"])

    def test_the_words_of_open_parts_do_not_count(self):
        self.assertEqual(signs_for([Form(DIGITS)]), [" ", "0", "A"])
        self.assertEqual(signs_for([Form("any>")]), [" ", "0", ">", "A", "a", "n", "y"])

    def test_where_none_is_left(self):
        digits = [Form("0123"), Form("4567"), Form("89")]
        self.assertEqual(signs_for(digits), [" "] + list("0123456789") + ["A"])
        others = [Form(" #-."), Form(":>")]
        self.assertEqual(signs_for(others), [" ", "#", "-", ".", "0", ":", ">", "A"])
        letters = [Form(SIGNS[k:k + 4]) for k in range(16, 68, 4)]
        self.assertEqual(signs_for(letters), [" ", "0"] + list(SIGNS[16:]))
        self.assertEqual(signs_for(digits + others + letters), list(SIGNS))

    def test_a_new_list(self):
        forms = [Form("a")]
        signs_for(forms).clear()
        self.assertEqual(signs_for(forms), [" ", "0", "A", "a"])

    def test_other_signs_do_what_one_of_these_does(self):
        chance = random.Random(13)
        for _ in range(60):
            forms = [random_form(chance, SIGNS, 4) for _ in range(chance.randint(0, 5))]
            signs = signs_for(forms)
            self.assertEqual(signs, sorted(set(signs)))
            state = after(forms, [chance.choice(SIGNS) for _ in range(2)])
            for sign in SIGNS:
                if sign not in signs:
                    alike = [x for x in signs if x < sign and step(forms, state, x) == step(forms, state, sign)]
                    self.assertTrue(alike, sign)


if __name__ == "__main__":
    unittest.main()
