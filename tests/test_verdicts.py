import itertools
import random
import unittest

from gluedlines.errors import NotRight
from gluedlines.faces import faces
from gluedlines.gluers import glue
from gluedlines.grammars import Grammar
from gluedlines.outputs import follows
from gluedlines.patterns import Form
from gluedlines.rules import Rule
from gluedlines.verdicts import is_right, pair_table, wrong_output
from support import DOT, ITEM, TITLE, got, outputs_of, places_of, random_grammar, random_output, random_rule, titled

TEXT = Form("T", Form.ANY)
LINES = ["T", "T1", "-", ".", "x"]
PATTERNS = (TITLE, ITEM, DOT, TEXT, DOT | Form("x"))
WORDS = ("none", "behind", "any")


def with_pauses(lines, ways, word):
    """All outputs that are made of this one by pauses, at most one in a place."""
    if word == "none":
        return [lines]
    if word == "behind":
        parts = [[lines[at] for at in places] for places in places_of(ways)]
        return [[line for part in parts for line in part + [None]]]
    found = []
    for told in itertools.product((False, True), repeat=len(lines)):
        found.append([thing for line, paused in zip(lines, told) for thing in ([line, None] if paused else [line])])
    return found


def least_wrong(grammar, rule, word, most):
    """The least number of lines of a wrong output, by trying all of at most so many lines."""
    for lines, ways in outputs_of(grammar, LINES, most):
        for paused in with_pauses(lines, ways, word):
            if got(rule, paused) != places_of(ways):
                return len(lines)
    return None


class WrongCase(unittest.TestCase):
    def check(self, grammar, rule, word="none", many=None):
        """Check that what is told is a wrong output, and return the number of its lines."""
        told = wrong_output(grammar, rule, word)
        self.assertIs(is_right(grammar, rule, word), told is None)
        if told is None:
            return None
        self.assertIsInstance(told, tuple)
        paused, ways = told
        lines = [line for line in paused if line is not None]
        self.assertTrue(follows(grammar, lines, ways), told)
        self.assertTrue(all(isinstance(way, list) for way in ways))
        self.assertNotEqual(got(rule, paused), places_of(ways))
        if word == "none":
            self.assertEqual(paused, lines)
            given = glue(rule, lines)
            self.assertTrue(given != [[lines[at] for at in at_all] for at_all in places_of(ways)])
        if word == "behind":
            self.assertEqual([paused], with_pauses(lines, ways, word))
        return len(lines)


class WrongOutputTest(WrongCase):
    def test_right_rules(self):
        for rule in (Rule.by_first(TITLE), Rule([TITLE, DOT], []), Rule([TITLE], [], alone=False),
                     Rule([TITLE], [], quiet=True), Rule([TITLE], [DOT])):
            self.assertIsNone(self.check(titled(), rule))
        dotted = Grammar([(ITEM, [0, 1]), (DOT, [])], [0], [1])
        for rule in (Rule.by_last(DOT), Rule([], [DOT, TITLE]), Rule([], [DOT], quiet=True)):
            self.assertIsNone(self.check(dotted, rule))
        lone = Grammar([(ITEM, []), (DOT, [])], [0, 1], [0, 1])
        for rule in (Rule.every_line(), Rule([], [], most=1), Rule([], [ITEM, DOT]), Rule([ITEM], [ITEM, DOT])):
            self.assertIsNone(self.check(lone, rule))

    def test_least_wrong_outputs(self):
        self.assertEqual(self.check(titled(), Rule.every_line()), 2)
        self.assertEqual(self.check(titled(), Rule([], [])), 2)
        self.assertEqual(self.check(titled(), Rule([], [], alone=False)), 1)
        self.assertEqual(self.check(titled(), Rule([TITLE], [TITLE])), 2)
        self.assertEqual(self.check(titled(), Rule([TITLE], [Form("-", Form.DIGITS)])), 3)
        # The record must be ended as its grammar asks: here with two lines more.
        grammar = Grammar([(TITLE, [1]), (ITEM, [2]), (ITEM, [3]), (DOT, [])], [0], [3])
        self.assertEqual(self.check(grammar, Rule([TITLE, ITEM], [])), 4)
        self.assertEqual(self.check(grammar, Rule([], [])), 8)
        # The other way to be wrong takes one line more to reach, and is ended sooner.
        grammar = Grammar([(TITLE, [1]), (ITEM, [2]), (Form("x"), [3]), (Form("y"), [4]), (DOT, []),
                           (Form("z"), [6]), (Form("z"), [7]), (DOT, [])], [0, 5], [4, 7])
        self.assertEqual(self.check(grammar, Rule([TITLE, ITEM, DOT, Form("z")], [])), 3)

    def test_lines_thrown_away(self):
        grammar = Grammar([(TITLE, [1]), (ITEM, [])], [0, 1], [1])
        self.assertEqual(self.check(grammar, Rule([TITLE], [ITEM])), None)
        self.assertEqual(self.check(grammar, Rule([TITLE], [ITEM], alone=False)), 1)
        self.assertEqual(self.check(grammar, Rule([TITLE], [], alone=False)), 1)
        self.assertEqual(self.check(titled(), Rule([TEXT], [], alone=False)), None)

    def test_most(self):
        ring = titled()
        for most in range(1, 21):
            self.assertEqual(self.check(ring, Rule([TITLE], [], most=most)), most + 1)
            chain = Grammar([(TITLE, [1]), (ITEM, [1, 2]), (DOT, [])], [0], [2])
            self.assertEqual(self.check(chain, Rule([], [DOT], most=most)), max(most + 1, 3))
            self.assertEqual(self.check(chain, Rule([TITLE], [], most=most, alone=False)), max(most + 1, 3))
        for many in range(1, 9):
            line = Grammar([(ITEM, [k + 1] if k + 1 < many else []) for k in range(many)], [0], [many - 1])
            self.assertIsNone(self.check(line, Rule([], [], most=many)))
            self.assertEqual(self.check(line, Rule([], [], most=many + 1)), 2 * many)
            if many > 1:
                self.assertEqual(self.check(line, Rule([], [], most=many - 1)), many)

    def test_most_parts_what_marks_do_not(self):
        # Records of exactly two lines, or of one line that ends them.
        grammar = Grammar([(ITEM, [1]), (ITEM, []), (DOT, [])], [0, 2], [1, 2])
        self.assertIsNone(self.check(grammar, Rule([], [DOT], most=2)))
        self.assertEqual(self.check(grammar, Rule([], [DOT])), 3)
        self.assertEqual(self.check(grammar, Rule([DOT], [], most=2)), 3)

    def test_pauses_behind(self):
        for quiet in (True, False):
            rule = Rule([], [], quiet=quiet)
            self.assertEqual(self.check(titled(), rule, "behind"), None if quiet else 2)
            self.assertEqual(self.check(titled(), Rule([], [], quiet=quiet, alone=False), "behind"), 1)
            self.assertEqual(self.check(titled(), Rule([TITLE], [], quiet=quiet), "behind"), None)
            self.assertEqual(self.check(titled(), Rule([ITEM], [], quiet=quiet), "behind"), 2)
            self.assertEqual(self.check(titled(), Rule([], [], most=3, quiet=quiet), "behind"), 4 if quiet else 2)

    def test_pauses_anywhere(self):
        self.assertIsNone(self.check(titled(), Rule([TITLE], []), "any"))
        self.assertEqual(self.check(titled(), Rule([TITLE], [], quiet=True), "any"), 2)
        lone = Grammar([(TITLE, [])], [0], [0])
        self.assertIsNone(self.check(lone, Rule([TITLE], [], quiet=True), "any"))
        self.assertEqual(self.check(lone, Rule([], [], quiet=True), "any"), 2)
        late = Grammar([(TITLE, [1]), (ITEM, [2]), (DOT, [])], [0], [2])
        self.assertEqual(self.check(late, Rule([TITLE], [], quiet=True), "any"), 3)

    def test_no_pauses_where_none_are_allowed(self):
        for rule in (Rule([], []), Rule([], [], quiet=True)):
            self.assertNotIn(None, wrong_output(titled(), rule)[0])
            self.assertNotIn(None, wrong_output(titled(), rule, "none")[0])

    def test_tags_have_no_effect(self):
        chance = random.Random(51)
        for _ in range(60):
            grammar, rule = random_grammar(chance), random_rule(chance)
            for word in WORDS:
                rule.tags = None
                told = self.check(grammar, rule, word)
                for tags in (0, 1, 9):
                    rule.tags = tags
                    self.assertEqual(self.check(grammar, rule, word), told)
                    self.assertEqual(rule.tags, tags)

    def test_other_words(self):
        for word in ("", "None", "None ", "all", "anywhere", None, True, 0, [], ("any",), b"any"):
            for call in (wrong_output, is_right):
                with self.assertRaises(NotRight) as caught:
                    call(titled(), Rule([TITLE], []), word)
                self.assertEqual(caught.exception.word, "pauses")
        self.assertIsNone(wrong_output(titled(), Rule([TITLE], []), pauses="behind"))
        self.assertIs(is_right(titled(), Rule([TITLE], []), pauses="any"), True)

    def test_all_short_outputs(self):
        chance = random.Random(52)
        many = {}
        for _ in range(260):
            grammar, rule = random_grammar(chance, 3, PATTERNS), random_rule(chance)
            for word in WORDS:
                told = self.check(grammar, rule, word)
                least = least_wrong(grammar, rule, word, 4)
                if told is None or told > 4:
                    self.assertIsNone(least)
                else:
                    self.assertEqual(told, least)
                many[told is None] = many.get(told is None, 0) + 1
        self.assertGreater(many[True], 30)

    def test_long_outputs_of_right_rules(self):
        chance = random.Random(53)
        for _ in range(800):
            grammar, rule = random_grammar(chance, 3, PATTERNS), random_rule(chance)
            rule.most = chance.choice([None, None, 1, 2, 4, 7])
            for word in WORDS:
                if self.check(grammar, rule, word) is None:
                    for _ in range(4):
                        lines, ways = random_output(chance, grammar, LINES, 12)
                        if word == "any":
                            paused = [thing for line in lines
                                      for thing in ([line, None] if chance.random() < 0.5 else [line])]
                        else:
                            paused = with_pauses(lines, ways, word)[0]
                        self.assertEqual(got(rule, paused), places_of(ways))


class PairTableTest(unittest.TestCase):
    def test_table(self):
        grammar = Grammar([(TEXT, [1]), (ITEM, [])], [0], [0, 1])
        no, begins, ends = (False, False), (True, False), (False, True)
        self.assertEqual(pair_table(grammar, Rule([TITLE], [DOT, ITEM])), [
            ("between", 0, 0, no, no, False), ("between", 0, 0, no, begins, True),
            ("between", 0, 0, begins, no, False), ("between", 0, 0, begins, begins, True),
            ("between", 1, 0, ends, no, True), ("between", 1, 0, ends, begins, True),
            ("inside", 0, 1, no, ends, False), ("inside", 0, 1, begins, ends, False)])

    def test_lone_node(self):
        self.assertEqual(pair_table(Grammar([(DOT, [])], [0], [0]), Rule([], [])),
                         [("between", 0, 0, (False, False), (False, False), False)])

    def test_against_the_words(self):
        chance = random.Random(54)
        for _ in range(80):
            grammar, rule = random_grammar(chance, 4, PATTERNS), random_rule(chance)
            told = pair_table(grammar, rule)
            rows = []
            for k in range(len(grammar)):
                for after in range(len(grammar)):
                    for face, _ in faces(grammar[k], rule):
                        for other, _ in faces(grammar[after], rule):
                            if after in grammar.nexts(k):
                                rows.append(("inside", k, after, face, other, face[1] or other[0]))
                            if k in grammar.lasts() and after in grammar.firsts():
                                rows.append(("between", k, after, face, other, face[1] or other[0]))
            self.assertEqual(told, sorted(set(rows)))
            self.assertEqual(len(told), len(rows))

    def test_it_tells_the_verdict(self):
        chance = random.Random(55)
        many = {True: 0, False: 0}
        for _ in range(300):
            grammar, rule = random_grammar(chance, 3, PATTERNS), random_rule(chance)
            rule.change(most=None, alone=True)
            right = all(parted == (word == "between") for word, _, _, _, _, parted in pair_table(grammar, rule))
            self.assertIs(is_right(grammar, rule), right)
            many[right] += 1
        self.assertGreater(many[True], 20)


if __name__ == "__main__":
    unittest.main()
