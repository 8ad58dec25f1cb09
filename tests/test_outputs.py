import itertools
import random
import unittest

from gluedlines.grammars import Grammar
from gluedlines.outputs import cuts_of, follows, is_output, is_record
from gluedlines.patterns import Form
from support import DOT, ITEM, TITLE, random_grammar, titled, walks

ANY = Form(Form.ANY)
LINES = ["T1", "-", "."]


def records(grammar, lines):
    """Whether the lines are a record, by trying all ways."""
    return any(all(line in grammar[k] for k, line in zip(way, lines)) for way in walks(grammar, len(lines)))


def cuts_by_trying(grammar, lines):
    """All cuts, by trying all tuples of lengths."""
    found = []
    for many in range(len(lines) + 1):
        for places in itertools.combinations(range(1, len(lines)), max(many - 1, 0)):
            if (many == 0) == (len(lines) == 0):
                bounds = [0, *places, len(lines)] if lines else [0]
                parts = [lines[low:high] for low, high in zip(bounds, bounds[1:])]
                if all(records(grammar, part) for part in parts):
                    found.append(tuple(len(part) for part in parts))
    return sorted(set(found))


class RecordTest(unittest.TestCase):
    def test_records(self):
        grammar = titled()
        for lines in (["T1"], ["T1", "-"], ["T1", "- a", "-", "-b"]):
            self.assertIs(is_record(grammar, lines), True)
        for lines in ([], ["-"], ["T"], ["T1", "T2"], ["T1", "-", "T1"], ["T1", "", "-"], ["T1", "x"]):
            self.assertIs(is_record(grammar, lines), False)

    def test_a_record_must_end_at_a_last_node(self):
        grammar = Grammar([(TITLE, [1]), (ITEM, [1, 2]), (DOT, [])], [0], [2])
        self.assertTrue(is_record(grammar, ["T1", "-", "."]))
        self.assertFalse(is_record(grammar, ["T1", "-"]))
        self.assertFalse(is_record(grammar, ["T1", "."]))
        self.assertFalse(is_record(grammar, ["-", "."]))

    def test_all_short_lists(self):
        chance = random.Random(11)
        for _ in range(40):
            grammar = random_grammar(chance)
            for many in range(5):
                for lines in itertools.product(LINES, repeat=many):
                    self.assertIs(is_record(grammar, list(lines)), many > 0 and records(grammar, list(lines)))


class OutputTest(unittest.TestCase):
    def test_outputs(self):
        grammar = titled()
        for lines in ([], ["T1"], ["T1", "T1"], ["T1", "-", "T2", "-", "-"]):
            self.assertIs(is_output(grammar, lines), True)
        for lines in (["-"], ["-", "T1"], ["T1", "x"], ["T1", "", "T1"], ["T1", "T", "-"]):
            self.assertIs(is_output(grammar, lines), False)

    def test_an_output_with_a_line_left_out_doubled_changed_moved(self):
        grammar = Grammar([(TITLE, [1]), (ITEM, [2]), (DOT, [])], [0], [2])
        lines = ["T1", "-", ".", "T2", "-a", "."]
        self.assertTrue(is_output(grammar, lines))
        for at in range(6):
            self.assertFalse(is_output(grammar, lines[:at] + lines[at + 1:]))
            self.assertFalse(is_output(grammar, lines[:at] + lines[at:at + 1] + lines[at:]))
            self.assertFalse(is_output(grammar, lines[:at] + ["x"] + lines[at + 1:]))
            self.assertFalse(is_output(grammar, lines[1:] + lines[:1]))

    def test_several_readings(self):
        # A line may be a title, the middle or the end: what it was shows only later.
        grammar = Grammar([(ANY, [1]), (ANY, [2]), (DOT, [])], [0], [2])
        self.assertTrue(is_output(grammar, [".", ".", ".", ".", ".", "."]))
        self.assertFalse(is_output(grammar, [".", ".", ".", "."]))
        self.assertFalse(is_output(grammar, [".", ".", "x"]))
        other = Grammar([(DOT, [1]), (DOT, [2]), (ITEM, []), (DOT, [])], [0, 3], [2, 3])
        self.assertTrue(is_output(other, [".", ".", ".", "-", "."]))
        self.assertTrue(is_output(other, [".", ".", "-", ".", "."]))
        self.assertFalse(is_output(other, [".", ".", "-", "-"]))
        self.assertFalse(is_output(other, [".", "-"]))

    def test_long_lists(self):
        for many in (60, 61, 200):
            grammar = Grammar([(ANY, [1]), (ANY, [0, 1]), (ANY, [])], [0, 2], [1, 2])
            self.assertTrue(is_output(grammar, ["T12"] * many))
            pairs = Grammar([(ANY, [1]), (ANY, [])], [0], [1])
            self.assertEqual(is_output(pairs, ["-"] * many), many % 2 == 0)
            self.assertTrue(is_record(titled(), ["T1"] + ["- item 12"] * many))
            self.assertFalse(is_output(titled(), ["T1"] + ["- item 12"] * many + ["x"]))

    def test_all_short_lists(self):
        chance = random.Random(12)
        for _ in range(30):
            grammar = random_grammar(chance)
            for many in range(5):
                for lines in itertools.product(LINES, repeat=many):
                    cuts = cuts_by_trying(grammar, list(lines))
                    self.assertIs(is_output(grammar, list(lines)), len(cuts) > 0)
                    self.assertEqual(list(cuts_of(grammar, list(lines))), cuts)


class CutsTest(unittest.TestCase):
    def test_cuts(self):
        grammar = Grammar([(ANY, [1]), (ANY, [])], [0], [0, 1])
        self.assertEqual(list(cuts_of(grammar, ["a", "b", "c"])), [(1, 1, 1), (1, 2), (2, 1)])

    def test_no_lines(self):
        self.assertEqual(list(cuts_of(titled(), [])), [()])

    def test_no_output(self):
        for lines in (["-"], ["T1", "x"], ["x", "T1"], ["T1", "", "T1"]):
            self.assertEqual(list(cuts_of(titled(), lines)), [])

    def test_twelve_lines(self):
        grammar = Grammar([(ANY, [0])], [0], [0])
        lines = ["a"] * 12
        cuts = list(cuts_of(grammar, lines))
        self.assertEqual(len(cuts), 2 ** 11)
        self.assertEqual(cuts, sorted(set(cuts)))
        self.assertEqual({sum(cut) for cut in cuts}, {12})
        self.assertEqual(list(cuts_of(grammar, lines)), cuts)
        self.assertEqual(lines, ["a"] * 12)

    def test_each_cut_once(self):
        # The two ways of two lines make the same cut.
        grammar = Grammar([(ANY, [1, 2]), (ANY, []), (ANY, [])], [0], [1, 2])
        self.assertEqual(list(cuts_of(grammar, ["a"] * 4)), [(2, 2)])

    def test_asked_again_in_between(self):
        grammar = Grammar([(ANY, [1]), (ANY, [])], [0], [0, 1])
        lines = ["a", "b", "c", "d"]
        first = cuts_of(grammar, lines)
        self.assertEqual(next(first), (1, 1, 1, 1))
        self.assertEqual(len(list(cuts_of(grammar, lines))), 5)
        self.assertEqual(list(first), [(1, 1, 2), (1, 2, 1), (2, 1, 1), (2, 2)])


class FollowsTest(unittest.TestCase):
    def setUp(self):
        self.grammar = Grammar([(TITLE, [1]), (ITEM, [1, 2]), (DOT, [])], [0], [1, 2])
        self.lines = ["T1", "-", ".", "T2", "-"]

    def told(self, lines, ways):
        return follows(self.grammar, lines, ways)

    def test_ways_that_fit(self):
        self.assertIs(self.told(self.lines, [[0, 1, 2], [0, 1]]), True)
        self.assertIs(self.told([], []), True)
        self.assertIs(self.told(["T1", "-"], [[0, 1]]), True)

    def test_ways_that_do_not_fit(self):
        for ways in ([[0, 1, 1], [0, 1]], [[0, 1], [0, 1]], [[0, 1, 2], [0, 1], [0, 1]], [[0, 1, 2, 0, 1]],
                     [[0, 1, 2]], [], [[0, 1, 2], [0]], [[0, 1, 2], [0, 1], []], [[], [0, 1, 2], [0, 1]],
                     [[0, 1, 2], [0, 3]], [[0, 1, 2], [0, -2]], [[0, 1], [2], [0, 1]], [[0, 1, 2], [0, 1, 1]],
                     [[0, 1], [0, 1, 2]]):
            self.assertIs(self.told(self.lines, ways), False, ways)

    def test_lines_that_do_not_fit(self):
        ways = [[0, 1, 2], [0, 1]]
        for at in range(5):
            self.assertFalse(self.told(self.lines[:at] + self.lines[at + 1:], ways))
            self.assertFalse(self.told(self.lines[:at] + ["x"] + self.lines[at + 1:], ways))
            self.assertFalse(self.told(self.lines[:at] + [""] + self.lines[at + 1:], ways))
        self.assertFalse(self.told(self.lines + ["-"], ways))
        self.assertFalse(self.told(["T1"], []))
        self.assertFalse(self.told([], [[0, 1]]))
        self.assertFalse(self.told([], [[]]))

    def test_a_way_joined_to_the_one_behind(self):
        grammar = titled()
        self.assertTrue(follows(grammar, ["T1", "-", "-"], [[0, 1, 1]]))
        self.assertFalse(follows(grammar, ["T1", "-", "T2"], [[0, 1, 0]]))
        ring = Grammar([(ANY, [0])], [0], [0])
        for ways in ([[0, 0]], [[0], [0]]):
            self.assertTrue(follows(ring, ["a", "b"], ways))


if __name__ == "__main__":
    unittest.main()
