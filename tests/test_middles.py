import random
import unittest

from gluedlines.errors import NotRight
from gluedlines.gluers import Gluer
from gluedlines.grammars import Grammar
from gluedlines.middles import late_ends, middle_most
from gluedlines.patterns import Form
from gluedlines.rules import Rule
from gluedlines.verdicts import is_right
from support import DOT, ITEM, TITLE, got, outputs_of, places_of, pools, random_grammar, random_rule, titled

TEXT = Form("T", Form.ANY)
LINES = ["T", "T1", "-", "."]
PATTERNS = (TITLE, ITEM, DOT, TEXT)


def chain(*patterns):
    """A grammar of records with one line for each of these patterns."""
    nodes = [(pattern, [k + 1] if k + 1 < len(patterns) else []) for k, pattern in enumerate(patterns)]
    return Grammar(nodes, [0], [len(patterns) - 1])


def delay(rule, lines, ways, place):
    """The delay of a reader that begins at this place."""
    given = [[place + at for at in places] for places in got(rule, lines[place:])]
    records = places_of(ways)
    for at, places in enumerate(records):
        if places[0] >= place and all(behind in given for behind in records[at:]):
            return places[0] - place
    return len(lines) - place


def greatest(grammar, rule, most):
    """The greatest delay in all outputs of at most so many lines."""
    found = 0
    for lines, ways in outputs_of(grammar, LINES, most):
        begins = [places[0] for places in places_of(ways)]
        for place in range(len(lines)):
            if place not in begins:
                found = max(found, delay(rule, lines, ways, place))
    return found


class MiddleMostTest(unittest.TestCase):
    def test_there_is_no_middle(self):
        for rule in (Rule([TITLE], []), Rule([], [TITLE]), Rule([], [], most=1)):
            self.assertEqual(middle_most(Grammar([(TITLE, [])], [0], [0]), rule), 0)

    def test_records_that_begin_by_a_mark(self):
        self.assertEqual(middle_most(chain(TITLE, ITEM), Rule([TITLE], [])), 1)
        self.assertEqual(middle_most(chain(TITLE, ITEM, DOT), Rule([TITLE], [])), 2)
        self.assertEqual(middle_most(chain(TITLE, ITEM, DOT), Rule([TITLE], [], alone=False)), 2)
        self.assertEqual(middle_most(chain(TITLE, *[ITEM] * 7), Rule([TITLE], [], most=8)), 7)
        # Items as many as you like stand behind a title.
        self.assertIsNone(middle_most(titled(), Rule([TITLE], [])))
        self.assertIsNone(middle_most(titled(), Rule([TITLE], [], alone=False)))

    def test_records_that_end_by_a_mark(self):
        self.assertEqual(middle_most(chain(ITEM, DOT), Rule([], [DOT])), 1)
        self.assertEqual(middle_most(chain(ITEM, TITLE, DOT), Rule([], [DOT])), 2)
        self.assertIsNone(middle_most(Grammar([(ITEM, [0, 1]), (DOT, [])], [0], [1]), Rule([], [DOT])))

    def test_records_of_one_length(self):
        for many in range(2, 9):
            self.assertIsNone(middle_most(chain(*[ITEM] * many), Rule([], [], most=many)))
        # Two lines that nothing tells from one another: the gluer is one line behind for ever.
        self.assertIsNone(middle_most(chain(ITEM, DOT), Rule([], [], most=2)))

    def test_some_record_begins_by_a_mark_and_another_does_not(self):
        # A title ends what was glued wrongly, but there need not be one.
        grammar = Grammar([(TITLE, [1]), (ITEM, []), (ITEM, [1])], [0, 2], [1])
        self.assertIsNone(middle_most(grammar, Rule([TITLE], [], most=2)))
        # From the middle the gluer is late by one record, until its own record is full.
        grammar = Grammar([(ITEM, [1]), (ITEM, [2]), (ITEM, []), (DOT, [])], [0, 3], [2, 3])
        self.assertIsNone(middle_most(grammar, Rule([DOT], [DOT], most=3)))

    def test_a_whole_record_is_glued_to_what_is_left_of_one(self):
        # The rest of a long record is glued to the short one behind it; there never is another long one in its place.
        grammar = Grammar([(ITEM, [1]), (Form("x"), []), (TITLE, [])], [0, 2], [1, 2])
        self.assertIsNone(middle_most(grammar, Rule([], [TITLE], most=2)))
        self.assertEqual(middle_most(grammar, Rule([ITEM, TITLE], [])), 1)
        self.assertEqual(middle_most(grammar, Rule([TITLE], [TITLE, Form("x")])), 1)
        # Each record has three lines, of which only a first one may end what is left, and may not begin anything.
        rule = Rule([], [TITLE, DOT], most=3)
        grammar = Grammar([(ITEM, [1]), (ITEM, [2]), (ITEM, []), (TITLE, [])], [0, 3], [2, 3])
        self.assertIsNone(middle_most(grammar, rule))
        grammar = Grammar([(ITEM, [1]), (ITEM, [2]), (TITLE, []), (DOT, [])], [0, 3], [2, 3])
        self.assertEqual(middle_most(grammar, rule), 2)

    def test_not_right(self):
        for rule in (Rule.every_line(), Rule([], []), Rule([], [DOT]), Rule([TITLE], [], most=3)):
            for call in (middle_most, late_ends):
                with self.assertRaises(NotRight) as caught:
                    call(titled(), rule)
                self.assertEqual(caught.exception.word, "rule")

    def test_all_short_outputs(self):
        chance = random.Random(121)
        told = {}
        while sum(told.values()) < 160:
            rule = random_rule(chance, PATTERNS)
            lone, long = pools(chance, rule, PATTERNS, 40)
            for grammar in lone[:1] + long[:3]:
                most = middle_most(grammar, rule)
                self.assertNotIsInstance(most, bool)
                least = greatest(grammar, rule, 6)
                if most is None:
                    # One line of six begins a record, so the delay of the other five lines is possible.
                    self.assertEqual(least, 5)
                else:
                    self.assertLessEqual(least, most)
                    self.assertTrue(least == most or most > 3)
                told[most] = told.get(most, 0) + 1
        self.assertTrue(all(told.get(most, 0) > 3 for most in (None, 0, 1)), told)

    def test_tags_and_quiet_have_no_effect(self):
        for tags in (None, 0, 1, 9):
            for quiet in (True, False):
                rule = Rule([TITLE], [], tags=tags, quiet=quiet)
                self.assertEqual(middle_most(chain(TITLE, ITEM, DOT), rule), 2)
                self.assertEqual(late_ends(chain(TITLE, ITEM, DOT), rule), [2])


class LateEndsTest(unittest.TestCase):
    def test_late_ends(self):
        self.assertEqual(late_ends(titled(), Rule([TITLE], [])), [0, 1])
        grammar = Grammar([(DOT, []), (ITEM, [1, 0]), (TITLE, [])], [2, 1, 0], [0, 2])
        self.assertEqual(late_ends(grammar, Rule([], [DOT, TITLE])), [])
        grammar = Grammar([(ITEM, [1]), (Form("x"), []), (TITLE, [0, 1, 3]), (Form("y"), [])], [2], [3, 1, 0])
        for ends, found in (([], [0, 1, 3]), ([Form("y")], [0, 1]), ([Form("x")], [0, 3]),
                            ([Form("x"), Form("y")], [0])):
            self.assertEqual(late_ends(grammar, Rule([TITLE], ends)), found)

    def test_most(self):
        self.assertEqual(late_ends(chain(TITLE, ITEM), Rule([TITLE], [], most=2)), [])
        self.assertEqual(late_ends(chain(TITLE, ITEM), Rule([TITLE], [], most=3)), [1])
        # The node stands at the end of a record of two lines and of one of three.
        grammar = Grammar([(TITLE, [1, 2]), (Form("x"), [2]), (ITEM, [])], [0], [2])
        self.assertEqual(late_ends(grammar, Rule([TITLE], [], most=3)), [2])
        self.assertEqual(late_ends(Grammar([(TITLE, [])], [0], [0]), Rule([], [], most=1)), [])

    def test_only_some_lines_are_late(self):
        self.assertEqual(late_ends(chain(TITLE, ITEM), Rule([TITLE], [Form("-")])), [1])
        self.assertEqual(late_ends(chain(TITLE, Form("-")), Rule([TITLE], [ITEM])), [])

    def test_new_lists(self):
        grammar, rule = chain(TITLE, ITEM), Rule([TITLE], [])
        late_ends(grammar, rule).append(5)
        self.assertEqual(late_ends(grammar, rule), [1])

    def test_all_short_outputs(self):
        chance = random.Random(122)
        empty = 0
        for _ in range(70):
            rule = random_rule(chance, PATTERNS)
            lone, long = pools(chance, rule, PATTERNS, 25)
            for grammar in lone[:1] + long[:2]:
                found = set()
                for lines, ways in outputs_of(grammar, LINES, 5):
                    gluer = Gluer(rule)
                    for line in lines:
                        gluer(line, 0)
                    if gluer.waiting():
                        found.add(ways[-1][-1])
                self.assertEqual(late_ends(grammar, rule), sorted(found))
                empty += not found
        self.assertGreater(empty, 5)


class RandomTest(unittest.TestCase):
    def test_wrong_rules_raise_and_right_ones_do_not(self):
        chance = random.Random(123)
        for _ in range(100):
            grammar, rule = random_grammar(chance), random_rule(chance)
            for call in (middle_most, late_ends):
                if is_right(grammar, rule):
                    call(grammar, rule)
                else:
                    self.assertRaises(NotRight, call, grammar, rule)


if __name__ == "__main__":
    unittest.main()
