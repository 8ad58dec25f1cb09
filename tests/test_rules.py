import unittest

from gluedlines.errors import NoRule
from gluedlines.patterns import Form
from gluedlines.rules import Rule, assign
from support import DOT, ITEM, TITLE

ANY = Form(Form.ANY)
ODD = ["", "most", "1", (), (1,), [], [1], {}, b"", object(), Form("a")]
GOOD = {"most": [None, 1, 2, 19, 20], "alone": [True, False], "tags": [None, 0, 1, 8, 9], "quiet": [True, False]}
BAD = {"most": [True, False, 0, 21, -1, 100, *ODD], "alone": [None, 0, 1, 2, -1, *ODD],
       "tags": [True, False, -1, 10, 20, *ODD], "quiet": [None, 0, 1, 2, -1, *ODD]}
FIELDS = ["most", "alone", "tags", "quiet"]


def settings(rule):
    return [rule.most, rule.alone, rule.tags, rule.quiet]


class RuleCase(unittest.TestCase):
    def refused(self, call):
        with self.assertRaises(NoRule) as caught:
            call()
        return caught.exception.field


class MakingTest(RuleCase):
    def test_default_settings(self):
        self.assertEqual(settings(Rule([], [])), [None, True, None, False])
        self.assertIs(Rule([], []).alone, True)
        self.assertIs(Rule([], []).quiet, False)

    def test_settings(self):
        for field in FIELDS:
            for value in GOOD[field]:
                rule = Rule([TITLE], [], **{field: value})
                self.assertIs(getattr(rule, field), value)
                self.assertEqual([getattr(rule, other) for other in FIELDS if other != field],
                                 [getattr(Rule([], []), other) for other in FIELDS if other != field])

    def test_values_that_are_refused(self):
        for field in FIELDS:
            for value in BAD[field]:
                self.assertEqual(self.refused(lambda: Rule([], [], **{field: value})), field)

    def test_marks(self):
        self.assertEqual(Rule([TITLE] * 6, []).begins(), [TITLE] * 6)
        self.assertEqual(Rule([TITLE] * 2, [DOT] * 4).ends(), [DOT] * 4)
        for begins, ends in ((7, 0), (0, 7), (4, 3), (6, 1), (1, 6)):
            self.assertEqual(self.refused(lambda: Rule([TITLE] * begins, [DOT] * ends)), "marks")

    def test_which_error_comes_first(self):
        bad = {"most": True, "alone": 1, "tags": False, "quiet": 0}
        self.assertEqual(self.refused(lambda: Rule([TITLE] * 7, [], **bad)), "marks")
        for field in FIELDS:
            self.assertEqual(self.refused(lambda: Rule([TITLE], [], **dict(reversed(bad.items())))), field)
            del bad[field]

    def test_settings_are_passed_by_name(self):
        with self.assertRaises(TypeError):
            Rule([], [], 3)

    def test_lists_are_copied(self):
        begins, ends = [TITLE], [DOT]
        rule = Rule(begins, ends)
        begins.append(DOT)
        ends.clear()
        self.assertEqual([rule.begins(), rule.ends()], [[TITLE], [DOT]])
        rule.begins().append(ITEM)
        rule.ends().clear()
        self.assertEqual([rule.begins(), rule.ends()], [[TITLE], [DOT]])
        self.assertTrue(rule.ends_on("."))
        self.assertFalse(rule.begins_on("-"))


class SettingsTest(RuleCase):
    def test_assigned(self):
        for field in FIELDS:
            for value in GOOD[field]:
                rule = Rule([TITLE], [])
                setattr(rule, field, value)
                self.assertIs(getattr(rule, field), value)

    def test_refused_and_nothing_changed(self):
        for field in FIELDS:
            for value in BAD[field]:
                rule = Rule([TITLE], [DOT], most=3, alone=False, tags=2, quiet=True)
                self.assertEqual(self.refused(lambda: setattr(rule, field, value)), field)
                self.assertEqual(self.refused(lambda: rule.change(**{field: value})), field)
                self.assertEqual(self.refused(lambda: assign(rule, field, value)), field)
                self.assertEqual(settings(rule), [3, False, 2, True])

    def test_change(self):
        for field in FIELDS:
            for value in GOOD[field]:
                rule = Rule([], [], most=4, alone=False, tags=0, quiet=True)
                self.assertIsNone(rule.change(**{field: value}))
                now = {"most": 4, "alone": False, "tags": 0, "quiet": True}
                now[field] = value
                self.assertEqual(settings(rule), list(now.values()))
        rule = Rule([], [])
        rule.change()
        self.assertEqual(settings(rule), [None, True, None, False])
        rule.change(quiet=True, most=7)
        self.assertEqual(settings(rule), [7, True, None, True])
        rule.change(tags=9, quiet=False, alone=False, most=20)
        self.assertEqual(settings(rule), [20, False, 9, False])
        rule.change(most=None, tags=None)
        self.assertEqual(settings(rule), [None, False, None, False])

    def test_change_is_refused_as_a_whole(self):
        rule = Rule([], [], most=5)
        self.assertEqual(self.refused(lambda: rule.change(most=3, quiet=0)), "quiet")
        self.assertEqual(self.refused(lambda: rule.change(quiet=0, tags=True, alone=False, most=3)), "tags")
        self.assertEqual(self.refused(lambda: rule.change(quiet=2, tags=2, alone=2, most=2)), "alone")
        self.assertEqual(self.refused(lambda: rule.change(quiet=2, tags=10, alone=2, most=False)), "most")
        self.assertEqual(settings(rule), [5, True, None, False])

    def test_change_looks_at_the_names_first(self):
        rule = Rule([], [])
        for name in ("marks", "begins", "ends", "Most", "most_", "name", "field"):
            self.assertEqual(self.refused(lambda: rule.change(**{name: 3})), "name")
            self.assertEqual(self.refused(lambda: rule.change(**{"most": 0, name: 3, "quiet": True})), "name")
            self.assertEqual(self.refused(lambda: rule.change(**{name: None, "alone": False})), "name")
        self.assertEqual(settings(rule), [None, True, None, False])

    def test_assign(self):
        rule = Rule([], [])
        for field, value in (("most", 3), ("alone", False), ("tags", 0), ("quiet", True)):
            self.assertIsNone(assign(rule, field, value))
            self.assertIs(getattr(rule, field), value)
        for name in ("", "marks", "name", "begins", "change", "MOST", "_most", "most "):
            self.assertEqual(self.refused(lambda: assign(rule, name, 3)), "name")
        self.assertEqual(settings(rule), [3, False, 0, True])


class MarksTest(RuleCase):
    def test_begins_on_and_ends_on(self):
        rule = Rule([TITLE, ITEM], [DOT, ITEM])
        for line, begins, ends in (("T1", True, False), ("-a", True, True), (".", False, True), ("x", False, False)):
            self.assertIs(rule.begins_on(line), begins)
            self.assertIs(rule.ends_on(line), ends)
        self.assertIs(Rule([], []).begins_on("T1"), False)
        self.assertIs(Rule([], []).ends_on("T1"), False)

    def test_by_first(self):
        rule = Rule.by_first(TITLE, DOT)
        self.assertEqual([rule.begins(), rule.ends()], [[TITLE, DOT], []])
        self.assertEqual(settings(rule), [None, True, None, False])
        self.assertEqual(Rule.by_first().begins(), [])
        self.assertEqual(self.refused(lambda: Rule.by_first(*[DOT] * 7)), "marks")

    def test_by_last(self):
        rule = Rule.by_last(TITLE, DOT)
        self.assertEqual([rule.begins(), rule.ends()], [[], [TITLE, DOT]])
        self.assertEqual(settings(rule), [None, True, None, False])
        self.assertEqual(Rule.by_last().ends(), [])
        self.assertEqual(self.refused(lambda: Rule.by_last(*[DOT] * 7)), "marks")

    def test_every_line(self):
        rule = Rule.every_line()
        self.assertEqual([rule.begins(), rule.ends()], [[ANY], []])
        self.assertEqual(settings(rule), [None, True, None, False])
        rule.most = 3
        self.assertIsNone(Rule.every_line().most)


class EqualTest(RuleCase):
    def test_order_and_doubles_do_not_matter(self):
        one = Rule([TITLE, ITEM], [DOT])
        for other in (Rule([ITEM, TITLE], [DOT]), Rule([ITEM, TITLE, ITEM], [DOT, DOT]), Rule([TITLE, ITEM], [DOT])):
            self.assertTrue(one == other and other == one)
            self.assertFalse(one != other)
            self.assertIs(one.is_part_of(other), True)
            self.assertIs(other.is_part_of(one), True)

    def test_marks_of_equal_texts(self):
        self.assertEqual(Rule([Form("T", Form.DIGITS)], []), Rule([Form("T", Form.DIGITS)], []))
        self.assertNotEqual(Rule([TITLE | DOT], []), Rule([DOT | TITLE], []))

    def test_parts(self):
        one = Rule([TITLE], [])
        for other in (Rule([TITLE, DOT], []), Rule([DOT, TITLE], [ITEM])):
            self.assertIs(one.is_part_of(other), True)
            self.assertIs(other.is_part_of(one), False)
            self.assertFalse(one == other or other == one)
        self.assertIs(Rule([], []).is_part_of(one), True)
        self.assertIs(Rule([], [DOT]).is_part_of(Rule([], [TITLE, DOT])), True)
        self.assertIs(Rule([], [TITLE, DOT]).is_part_of(Rule([], [DOT])), False)
        self.assertIs(Rule([DOT], []).is_part_of(Rule([], [DOT])), False)
        self.assertNotEqual(Rule([DOT], []), Rule([], [DOT]))

    def test_settings_must_be_equal(self):
        for field in FIELDS:
            for value in GOOD[field]:
                one, other = Rule([TITLE], []), Rule([TITLE], [], **{field: value})
                same = getattr(one, field) is value
                self.assertIs(one.is_part_of(other), same)
                self.assertIs(one == other, same)
                other.change(**{field: getattr(one, field)})
                self.assertTrue(one == other)

    def test_other_things(self):
        for other in (None, 0, "", "Rule", [], TITLE, [TITLE], (), {}):
            self.assertFalse(Rule([TITLE], []) == other)
            self.assertTrue(Rule([TITLE], []) != other)


if __name__ == "__main__":
    unittest.main()
