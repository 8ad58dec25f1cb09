import random
import unittest

from gluedlines.crews import Crew, is_crew_output
from gluedlines.crewverdicts import breaking_number, crew_wrong
from gluedlines.grammars import Grammar
from gluedlines.outputs import follows
from gluedlines.patterns import Form
from gluedlines.rules import Rule
from gluedlines.verdicts import is_right
from support import DOT, ITEM, TITLE, crew_outputs, pools, random_grammar, random_rule, right_for_crew, titled

TEXT = Form("T", Form.ANY)
LINES = ["T", "T1", "-", "."]
PATTERNS = (TITLE, ITEM, DOT, TEXT)
FIRSTS, LASTS = Rule([TITLE], []), Rule([], [DOT])


def dotted():
    """A grammar of any number of items and a dot."""
    return Grammar([(ITEM, [0, 1]), (DOT, [])], [0, 1], [1])


def lone(*patterns):
    """A grammar of records of one line."""
    return Grammar([(pattern, []) for pattern in patterns], list(range(len(patterns))), list(range(len(patterns))))


def changed_copy(rule, **settings):
    other = Rule(rule.begins(), rule.ends(), most=rule.most, alone=rule.alone, tags=rule.tags, quiet=rule.quiet)
    other.change(**settings)
    return other


class CrewCase(unittest.TestCase):
    def check(self, crew, rule):
        """Check that what is told is a wrong output, and return whether the rule is right."""
        told = crew_wrong(crew, rule)
        if told is None:
            return True
        self.assertIsInstance(told, tuple)
        rows, parts = told
        self.assertTrue(all(isinstance(row, tuple) for row in rows))
        self.assertTrue(is_crew_output(crew, rows), told)
        self.assertEqual(len(parts), len(crew))
        for writer, ways in enumerate(parts):
            self.assertTrue(all(isinstance(way, list) for way in ways))
            self.assertTrue(follows(crew[writer], [line for other, line in rows if other == writer], ways), told)
        self.assertFalse(right_for_crew(rule, rows, parts), told)
        return False

    def check_all(self, crew, rule, most):
        """Check the same, and if the rule is right try it with all short outputs."""
        right = self.check(crew, rule)
        if right:
            for rows, parts in crew_outputs(crew, LINES, most):
                self.assertTrue(right_for_crew(rule, rows, parts), (rows, parts))
        return right


class CrewWrongTest(CrewCase):
    def test_one_writer(self):
        for tags in (None, 0, 1, 2, 3, 9):
            for at_once in (True, False):
                crew = Crew(titled(), at_once=at_once)
                self.assertTrue(self.check_all(crew, changed_copy(FIRSTS, tags=tags), 5))
                self.assertFalse(self.check(crew, changed_copy(LASTS, tags=tags)))

    def test_wrong_for_one_of_the_writers(self):
        for tags in (None, 0, 1, 2, 3):
            for at_once in (True, False):
                rule = changed_copy(FIRSTS, tags=tags)
                self.assertFalse(self.check(Crew(dotted(), titled(), at_once=at_once), rule))
                self.assertFalse(self.check(Crew(titled(), dotted(), at_once=at_once), rule))
                self.assertFalse(self.check(Crew(titled(), titled(), dotted(), at_once=at_once), rule))

    def test_no_tags_and_line_by_line(self):
        self.assertFalse(self.check(Crew(titled(), titled()), FIRSTS))
        self.assertFalse(self.check(Crew(titled(), lone(TITLE)), FIRSTS))
        self.assertFalse(self.check(Crew(lone(TITLE), titled()), FIRSTS))
        self.assertFalse(self.check(Crew(lone(TITLE), lone(TITLE), titled()), FIRSTS))
        self.assertTrue(self.check_all(Crew(lone(TITLE), lone(TITLE)), FIRSTS, 4))
        self.assertTrue(self.check_all(Crew(lone(DOT), lone(DOT), lone(DOT)), LASTS, 4))
        self.assertTrue(self.check_all(Crew(lone(DOT), lone(TITLE), lone(ITEM)), Rule([], [], most=1), 4))

    def test_no_tags_and_at_once(self):
        self.assertTrue(self.check_all(Crew(titled(), titled(), at_once=True), FIRSTS, 5))
        self.assertTrue(self.check_all(Crew(dotted(), dotted(), at_once=True), LASTS, 5))
        self.assertTrue(self.check_all(Crew(dotted(), lone(DOT), dotted(), at_once=True), LASTS, 4))
        two = Grammar([(ITEM, [1]), (ITEM, [])], [0], [1])
        self.assertTrue(self.check_all(Crew(two, two, at_once=True), Rule([], [], most=2), 5))

    def test_no_tags_one_writer_stays_open_and_another_does_not_begin(self):
        # Right for each alone: a title begins a record, and a dot is ended by its own line.
        rule = Rule([TITLE], [DOT])
        self.assertTrue(is_right(titled(), rule))
        self.assertTrue(is_right(lone(DOT), rule))
        for at_once in (True, False):
            self.assertFalse(self.check(Crew(lone(TITLE), lone(DOT), at_once=at_once), rule))
            self.assertFalse(self.check(Crew(lone(DOT), lone(TITLE), at_once=at_once), rule))
            self.assertFalse(self.check(Crew(lone(DOT), lone(DOT), lone(TITLE), at_once=at_once), rule))
            self.assertTrue(self.check(Crew(lone(TITLE), lone(DOT), at_once=at_once), Rule([TITLE, DOT], [DOT])))
            self.assertTrue(self.check(Crew(lone(TITLE), lone(DOT), at_once=at_once), Rule([TITLE], [TITLE, DOT])))
            # With tags the writers do not disturb one another.
            self.assertTrue(self.check(Crew(lone(TITLE), lone(DOT), at_once=at_once), changed_copy(rule, tags=0)))
        self.assertFalse(self.check(Crew(dotted(), titled(), at_once=True), rule))
        # Two records of two lines each, one behind the other.
        late, blunt = Grammar([(TITLE, [1]), (ITEM, [])], [0], [1]), Grammar([(ITEM, [1]), (DOT, [])], [0], [1])
        self.assertFalse(self.check(Crew(late, blunt, at_once=True), rule))
        self.assertFalse(self.check(Crew(blunt, late, at_once=True), rule))
        self.assertTrue(self.check_all(Crew(late, blunt, at_once=True), Rule([TITLE], [DOT], most=2), 5))
        # Behind three lines no record is open.
        three = Grammar([(ITEM, [1]), (ITEM, [2]), (ITEM, [])], [0], [2])
        for most, right in ((3, True), (4, False)):
            self.assertIs(self.check(Crew(three, three, at_once=True), Rule([], [], most=most)), right)

    def test_most_ends_a_record_before_another_writer(self):
        pair = Grammar([(ITEM, [1]), (ITEM, []), (TITLE, [])], [0, 2], [1, 2])
        rule = Rule([], [TITLE, DOT], most=2)
        self.assertFalse(self.check(Crew(pair, lone(DOT, ITEM), at_once=True), rule))
        self.assertTrue(self.check_all(Crew(pair, lone(DOT), at_once=True), rule, 5))
        self.assertFalse(self.check(Crew(pair, dotted(), at_once=True), rule))

    def test_alone(self):
        for at_once in (True, False):
            crew = Crew(lone(TITLE), lone(DOT), at_once=at_once)
            self.assertFalse(self.check(crew, Rule([TITLE], [DOT, TITLE], alone=False)))
            self.assertTrue(self.check_all(crew, Rule([TITLE, DOT], [DOT], alone=False), 4))
            self.assertTrue(self.check_all(crew, Rule([TITLE], [DOT, TITLE], alone=True), 4))

    def test_a_record_for_each_tag(self):
        for count in (1, 2, 3):
            for grammar, rule in ((titled(), FIRSTS), (dotted(), LASTS)):
                for at_once in (True, False):
                    crew = Crew(*[grammar] * count, at_once=at_once)
                    self.assertTrue(self.check_all(crew, changed_copy(rule, tags=0), 4))

    def test_only_so_many_open_records(self):
        for count in (1, 2, 3):
            for tags in (1, 2, 3, 4, 9):
                for at_once in (True, False):
                    for grammar, rule in ((titled(), FIRSTS), (dotted(), LASTS)):
                        crew = Crew(*[grammar] * count, at_once=at_once)
                        right = self.check_all(crew, changed_copy(rule, tags=tags), 4)
                        self.assertIs(right, at_once or count <= tags)
                    crew = Crew(*[lone(TITLE)] * count, at_once=at_once)
                    self.assertTrue(self.check_all(crew, changed_copy(FIRSTS, tags=tags), 4))

    def test_whose_open_record_is_given_out(self):
        # With two open records the third writer ends one that is not done only if the second one can be open, too.
        rule = Rule([TITLE], [DOT], tags=2)
        for places in ((0, 1, 2), (1, 2, 0), (2, 0, 1), (2, 1, 0)):
            for second, right in ((lone(DOT), True), (lone(TITLE), False), (titled(), False), (dotted(), False)):
                writers = [titled(), second, lone(DOT)]
                crew = Crew(*[writers[at] for at in places])
                self.assertIs(self.check_all(crew, rule, 4), right)
        self.assertTrue(self.check_all(Crew(lone(TITLE), lone(TITLE), lone(TITLE)), rule, 4))
        # Nothing of one line is ever open.
        ones = changed_copy(rule, most=1)
        self.assertTrue(self.check_all(Crew(lone(TITLE), lone(DOT), lone(TITLE)), ones, 4))
        # One open record: any other writer ends it.
        rule.tags = 1
        self.assertFalse(self.check(Crew(titled(), lone(DOT)), rule))
        self.assertFalse(self.check(Crew(lone(DOT), lone(DOT), titled()), rule))
        self.assertTrue(self.check_all(Crew(lone(DOT), lone(TITLE), lone(DOT)), rule, 4))

    def test_order_among_writers_does_not_count_with_tags(self):
        # The record of writer 0 is given out last, though its last line comes first.
        rows, parts = [(0, "T1"), (1, "T1"), (1, "T2")], [[[0]], [[0], [0]]]
        self.assertTrue(right_for_crew(changed_copy(FIRSTS, tags=0), rows, parts))
        self.assertTrue(self.check_all(Crew(lone(TITLE), lone(TITLE)), changed_copy(FIRSTS, tags=0), 5))
        self.assertTrue(self.check_all(Crew(titled(), dotted()), Rule([TITLE], [DOT], tags=0), 4))

    def test_a_writer_is_exchanged(self):
        crew = Crew(titled(), titled(), at_once=True)
        self.assertTrue(self.check(crew, FIRSTS))
        crew[1] = dotted()
        self.assertFalse(self.check(crew, FIRSTS))
        self.assertFalse(self.check(crew, LASTS))
        crew[0] = dotted()
        self.assertTrue(self.check(crew, LASTS))

    def test_nothing_is_changed(self):
        grammar, rule = titled(), Rule([TITLE], [], tags=1)
        crew = Crew(grammar, grammar)
        rows, parts = crew_wrong(crew, rule)
        rows.append("x")
        parts[0].append("x")
        parts.append("x")
        self.assertNotIn("x", crew_wrong(crew, rule)[0])
        self.assertEqual(len(crew), 2)
        self.assertEqual(crew[0], titled())
        self.assertEqual(rule, Rule([TITLE], [], tags=1))

    def test_all_short_outputs(self):
        chance = random.Random(101)
        many = {}
        for _ in range(60):
            rule = random_rule(chance, PATTERNS)
            lone_ones, long_ones = pools(chance, rule, PATTERNS)
            some = long_ones[:4] + lone_ones[:2] + [random_grammar(chance, 2, PATTERNS)]
            for _ in range(4):
                rule.change(tags=chance.choice([None, None, 0, 1, 1, 2, 2, 3]), quiet=chance.random() < 0.5)
                grammars = [chance.choice(some) for _ in range(chance.choice([1, 2, 2, 3, 3]))]
                crew = Crew(*grammars, at_once=chance.random() < 0.4)
                key = (self.check_all(crew, rule, 4 if len(crew) < 3 else 3), rule.tags, crew.at_once)
                many[key] = many.get(key, 0) + 1
                told = crew_wrong(crew, rule) is None
                rule.quiet = not rule.quiet
                self.assertIs(crew_wrong(crew, rule) is None, told)
        for key in ((right, tags, at_once) for right in (True, False) for tags in (None, 0, 1, 2)
                    for at_once in (True, False) if (right, tags, at_once) != (True, None, False)):
            self.assertGreater(many.get(key, 0), 0, key)


class SentencesTest(CrewCase):
    """What point 36 says of crews."""

    def crews(self, seed, tries=25):
        chance = random.Random(seed)
        for _ in range(tries):
            rule = random_rule(chance, PATTERNS)
            lone_ones, long_ones = pools(chance, rule, PATTERNS)
            some = long_ones[:4] + lone_ones[:4] + [random_grammar(chance, 2, PATTERNS)]
            for count in (1, 2, 3):
                for _ in range(3):
                    yield rule, [chance.choice(some) for _ in range(count)]

    def test_at_once_without_tags(self):
        many = {True: 0, False: 0}
        for rule, grammars in self.crews(102):
            rule.tags = None
            pairs = [Crew(grammars[one], grammars[other], at_once=True)
                     for one in range(len(grammars)) for other in range(len(grammars)) if one != other]
            right = all(is_right(grammar, rule) for grammar in grammars)
            right = right and all(crew_wrong(pair, rule) is None for pair in pairs)
            self.assertIs(self.check(Crew(*grammars, at_once=True), rule), right)
            many[right] += 1
        self.assertGreater(min(many.values()), 20)

    def test_line_by_line_without_tags(self):
        many = {True: 0, False: 0}
        for rule, grammars in self.crews(103):
            rule.tags = None
            if len(grammars) > 1:
                right = self.check(Crew(*grammars), rule)
                if right:
                    self.assertEqual([grammar.longest() for grammar in grammars], [1] * len(grammars))
                many[right] += 1
        self.assertGreater(min(many.values()), 10)

    def test_tags_0(self):
        for rule, grammars in self.crews(104):
            rule.tags = 0
            right = all(is_right(grammar, rule) for grammar in grammars)
            for at_once in (True, False):
                self.assertIs(self.check(Crew(*grammars, at_once=at_once), rule), right)

    def test_breaking_number(self):
        told = {}
        for rule, grammars in self.crews(105):
            for tags in [None] + list(range(10)):
                rule.tags = tags
                number = breaking_number(grammars[0], rule)
                self.assertNotIsInstance(number, bool)
                for count in (1, 2, 3):
                    self.assertIs(self.check(Crew(*grammars[:1] * count), rule), number is None or count < number)
                self.assertIn(number, (None, 1, 2) if tags is None else (None, 1, tags + 1))
                told[(tags, number)] = True
        for key in [(None, 2), (None, None), (None, 1), (0, None), (0, 1)] + [(tags, tags + 1) for tags in range(1, 10)]:
            self.assertIn(key, told)


class BreakingNumberTest(unittest.TestCase):
    def test_wrong_for_one_writer(self):
        for tags in [None] + list(range(10)):
            self.assertEqual(breaking_number(titled(), changed_copy(LASTS, tags=tags)), 1)
            self.assertEqual(breaking_number(lone(TITLE), changed_copy(LASTS, tags=tags)), 1)

    def test_records_of_several_lines(self):
        for grammar, rule in ((titled(), FIRSTS), (dotted(), LASTS)):
            self.assertEqual(breaking_number(grammar, rule), 2)
            self.assertIsNone(breaking_number(grammar, changed_copy(rule, tags=0)))
            for tags in range(1, 10):
                self.assertEqual(breaking_number(grammar, changed_copy(rule, tags=tags)), tags + 1)

    def test_records_of_one_line(self):
        for tags in [None] + list(range(10)):
            self.assertIsNone(breaking_number(lone(TITLE), changed_copy(FIRSTS, tags=tags)))
            self.assertIsNone(breaking_number(lone(TITLE, DOT), Rule([], [], most=1, tags=tags)))
            self.assertIsNone(breaking_number(lone(DOT), changed_copy(LASTS, tags=tags)))

    def test_more_writers_than_a_crew_has(self):
        # Ten writers with a limit of nine open records: the tenth ends the first one.
        rows = [(writer, "T1") for writer in range(10)] + [(0, "-")]
        self.assertFalse(right_for_crew(changed_copy(FIRSTS, tags=9), rows, [[[0, 1]]] + [[[0]]] * 9))
        self.assertTrue(right_for_crew(changed_copy(FIRSTS, tags=9), rows[1:10], [[]] + [[[0]]] * 9))
        self.assertEqual(breaking_number(titled(), changed_copy(FIRSTS, tags=9)), 10)


if __name__ == "__main__":
    unittest.main()
