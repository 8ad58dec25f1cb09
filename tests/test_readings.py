import random
import unittest

from gluedlines.grammars import Grammar
from gluedlines.outputs import cuts_of, follows, is_output
from gluedlines.patterns import Form
from gluedlines.readings import ahead_needed, two_outputs, two_readings
from support import DOT, ITEM, TITLE, outputs_of, places_of, random_grammar, titled

ANY, TEXT = Form(Form.ANY), Form("T", Form.ANY)
LINES = ["T1", "-", ".", "x"]
PATTERNS = (TITLE, ITEM, DOT, TEXT, ANY, DOT | ITEM)


def ahead_grammar(many):
    """A grammar of which a reader must look so many lines ahead (1 to 7)."""
    # A record is "-", or "-" with many - 1 more of them and a dot.
    nodes = [(ITEM, [1])] + [(ITEM, [k + 1]) for k in range(1, many)] + [(DOT, [])]
    return Grammar(nodes, [0], [0, many])


def ends_of(ways):
    """The places behind the records along these ways."""
    return [places[-1] + 1 for places in places_of(ways)]


def conflict(grammar, ahead, most):
    """Whether outputs of at most so many lines show that looking so far ahead is not enough."""
    told = {}
    for lines, ways in outputs_of(grammar, LINES, most):
        for place in range(1, len(lines)):
            known = tuple(lines[:place + ahead]) + (() if place + ahead <= len(lines) else (None,))
            if told.setdefault((place, known), place in ends_of(ways)) != (place in ends_of(ways)):
                return True
    return False


class AheadNeededTest(unittest.TestCase):
    def test_none_needed(self):
        dotted = Grammar([(ITEM, [0, 1]), (DOT, [])], [0], [1])
        for grammar in (dotted, Grammar([(ANY, [])], [0], [0]), Grammar([(ANY, [1]), (DOT, [])], [0], [1])):
            self.assertEqual(ahead_needed(grammar), 0)
        self.assertEqual(ahead_needed(Grammar([(DOT, []), (TITLE, [2]), (ITEM, [])], [0, 1], [0, 2])), 0)

    def test_one_and_more_needed(self):
        self.assertEqual(ahead_needed(titled()), 1)
        for many in range(1, 8):
            self.assertEqual(ahead_needed(ahead_grammar(many)), many)

    def test_more_lines_than_there_are_nodes(self):
        a, b = Form("a"), Form("b")
        grammar = Grammar([(b, [1]), (a, [5]), (b, [4]), (b, []), (b, [2, 5]), (a, [6]), (a | b, [3]), (a, [4])],
                          [0, 7], [3, 4])
        self.assertEqual(ahead_needed(grammar), 10)

    def test_no_number_is_enough(self):
        for grammar in (Grammar([(ANY, [0])], [0], [0]), Grammar([(ITEM, [1]), (ITEM, [])], [0], [0, 1]),
                        Grammar([(ITEM, [1]), (ITEM, [2]), (DOT, []), (ITEM, [3])], [0, 3], [0, 2, 3])):
            self.assertIsNone(ahead_needed(grammar))

    def test_an_endless_row_that_does_not_end_alike(self):
        # Behind a title come items: they belong to it if a dot ends them, else each is a record.
        grammar = Grammar([(TITLE, [1]), (ITEM, [1, 2]), (DOT, []), (ITEM, [3, 4]), (Form("x"), [])],
                          [0, 3], [0, 2, 4])
        self.assertIsNone(ahead_needed(grammar))
        self.assertIsNone(two_readings(grammar))
        for ahead in (0, 1, 5, 60):
            lines, _, other_lines, _, place = two_outputs(grammar, ahead)
            self.assertEqual(lines[:place + ahead], other_lines[:place + ahead])
            self.assertNotEqual(lines, other_lines)

    def test_two_ways_of_the_same_cut(self):
        for first in (ITEM, ANY):
            grammar = Grammar([(first, [1, 2]), (TITLE, []), (TEXT, [])], [0], [1, 2])
            self.assertEqual(ahead_needed(grammar), 0)
            self.assertIsNone(two_readings(grammar))

    def test_rows_of_items_and_what_is_behind_them(self):
        line = Grammar([(ITEM, [k + 1]) for k in range(7)] + [(TITLE, [])], [0], [7])
        self.assertEqual(ahead_needed(line), 0)
        grammar = Grammar([(TITLE, [1]), (ITEM, [2]), (ITEM, [3]), (DOT, []), (ITEM, [])], [0, 4], [0, 3, 4])
        self.assertEqual(ahead_needed(grammar), 3)
        grammar = Grammar([(TITLE, [1, 5]), (ITEM, [2]), (ITEM, [3]), (ITEM, [4]), (DOT, []), (ITEM, [6]),
                           (Form("x"), []), (ITEM, [])], [0, 7], [0, 4, 6, 7])
        self.assertEqual(ahead_needed(grammar), 4)


class TwoOutputsCase(unittest.TestCase):
    def check(self, grammar, ahead):
        """Check what is told of this number, and return whether it is enough."""
        told = two_outputs(grammar, ahead)
        if told is None:
            return True
        self.assertIsInstance(told, tuple)
        lines, ways, other_lines, other_ways, place = told
        self.assertGreaterEqual(place, 1)
        self.assertTrue(follows(grammar, lines, ways))
        self.assertTrue(follows(grammar, other_lines, other_ways))
        self.assertIn(place, ends_of(ways))
        self.assertNotIn(place, ends_of(other_ways))
        self.assertGreater(min(len(lines), len(other_lines)), place)
        if min(len(lines), len(other_lines)) >= place + ahead:
            self.assertEqual(lines[:place + ahead], other_lines[:place + ahead])
        else:
            self.assertEqual(lines, other_lines)
        return False


class TwoOutputsTest(TwoOutputsCase):
    def test_titles(self):
        self.assertEqual([self.check(titled(), ahead) for ahead in (0, 1, 2, 60)], [False, True, True, True])

    def test_all_numbers(self):
        for many in range(1, 8):
            grammar = ahead_grammar(many)
            self.assertEqual([self.check(grammar, ahead) for ahead in range(61)], [ahead >= many for ahead in range(61)])

    def test_never_enough(self):
        for grammar in (Grammar([(ANY, [0])], [0], [0]), Grammar([(ITEM, [1]), (ITEM, [])], [0], [0, 1]),
                        Grammar([(TITLE, [1]), (ITEM, [1, 2]), (DOT, []), (ITEM, [3, 4]), (Form("x"), [])],
                                [0, 3], [0, 2, 4])):
            for ahead in range(61):
                self.assertFalse(self.check(grammar, ahead))

    def test_both_outputs_end_alike(self):
        # A title, an item and a dot are one record or two.
        grammar = Grammar([(TITLE, [1]), (ITEM, [2]), (DOT, []), (ITEM, [4]), (DOT, [])], [0, 3], [0, 2, 4])
        lines, cut, other_cut = two_readings(grammar)
        self.assertEqual([lines, sorted([cut, other_cut])], [["T0", "-", "."], [(1, 2), (3,)]])
        for ahead in (0, 1, 2, 3, 4, 60):
            self.assertFalse(self.check(grammar, ahead))

    def test_random_grammars(self):
        chance = random.Random(71)
        found = {}
        for _ in range(150):
            grammar = random_grammar(chance, 5, PATTERNS)
            needed = ahead_needed(grammar)
            found[needed] = found.get(needed, 0) + 1
            for ahead in (0, 1, 2, 3, 4, 5, 9, 60):
                self.assertEqual(self.check(grammar, ahead), needed is not None and ahead >= needed)
        self.assertLessEqual({None, 0, 1, 2}, set(found))

    def test_all_short_outputs(self):
        chance = random.Random(72)
        for _ in range(60):
            grammar = random_grammar(chance, 3, PATTERNS)
            needed = ahead_needed(grammar)
            for ahead in range(3):
                if needed is not None and ahead >= needed:
                    self.assertFalse(conflict(grammar, ahead, 5))
                elif ahead == 0:
                    self.assertTrue(conflict(grammar, ahead, 5))


class TwoReadingsTest(unittest.TestCase):
    def check(self, grammar):
        told = two_readings(grammar)
        if told is None:
            return None
        self.assertIsInstance(told, tuple)
        lines, cut, other_cut = told
        self.assertIsInstance(lines, list)
        self.assertTrue(is_output(grammar, lines))
        self.assertNotEqual(cut, other_cut)
        if len(lines) <= 12:
            cuts = list(cuts_of(grammar, lines))
            self.assertIn(cut, cuts)
            self.assertIn(other_cut, cuts)
        return len(lines)

    def test_no_output_has_two_cuts(self):
        for grammar in (titled(), ahead_grammar(3), Grammar([(ANY, [1]), (ANY, [])], [0], [1]),
                        Grammar([(ITEM, [1, 2]), (ITEM, []), (Form("-", Form.WORD), [])], [0], [1, 2])):
            self.assertIsNone(self.check(grammar))

    def test_fewest_lines(self):
        self.assertEqual(self.check(Grammar([(ANY, [0])], [0], [0])), 2)
        self.assertEqual(self.check(Grammar([(ITEM, [1]), (ANY, [])], [0], [0, 1])), 2)
        self.assertEqual(self.check(Grammar([(ITEM, [1]), (ITEM, [2]), (ITEM, [])], [0], [0, 2])), 3)
        # Records of 2 and of 3 lines.
        two_or_three = Grammar([(ITEM, [1]), (ITEM, [2]), (ITEM, [])], [0], [1, 2])
        self.assertEqual(self.check(two_or_three), 5)
        three_or_four = Grammar([(ITEM, [1]), (ITEM, [2]), (ITEM, [3]), (ITEM, [])], [0], [2, 3])
        self.assertEqual(self.check(three_or_four), 7)

    def test_all_short_outputs(self):
        chance = random.Random(73)
        for _ in range(80):
            grammar = random_grammar(chance, 4, PATTERNS)
            told = self.check(grammar)
            cuts, least = {}, None
            for lines, ways in outputs_of(grammar, LINES, 4):
                cut = tuple(len(way) for way in ways)
                if cuts.setdefault(tuple(lines), cut) != cut:
                    least = len(lines)
                    break
            self.assertEqual(told if told is None or told <= 4 else None, least)
            if told is not None:
                self.assertIsNone(ahead_needed(grammar))


if __name__ == "__main__":
    unittest.main()
