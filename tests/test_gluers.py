import random
import unittest

from gluedlines.gluers import Gluer, glue, glue_places
from gluedlines.patterns import Form
from gluedlines.rules import Rule
from support import DOT, ITEM, TITLE, random_rule

BOTH = Form("x")


def glued(rule, rows):
    """What a gluer gives out row by row, by the words of point 25, with all open records in one list."""
    waiting, told = [], []
    for at, (tag, line) in enumerate(rows):
        given = []
        tag = None if rule.tags is None else tag
        mine = [record for record in waiting if record[0] == tag]
        begins = any(line in mark for mark in rule.begins())
        if mine and begins:
            given.append(mine[0])
        if not mine or begins:
            if not begins and not rule.alone:
                told.append([])
                continue
            left = [record for record in waiting if record not in given]
            if rule.tags and len(left) >= rule.tags:
                given.append(min(left, key=lambda record: record[1][-1]))
            waiting = [record for record in left if record not in given] + [(tag, [at])]
        else:
            mine[0][1].append(at)
        now = [record for record in waiting if record[0] == tag][0]
        if any(line in mark for mark in rule.ends()) or len(now[1]) == rule.most:
            given.append(now)
            waiting.remove(now)
        told.append(given)
    return told + [sorted(waiting, key=lambda record: record[1][-1])]


class OneTagTest(unittest.TestCase):
    def test_marks_that_begin(self):
        rule = Rule([TITLE], [])
        self.assertEqual(glue(rule, ["T1", "-", "T2", "T3", "-", "-"]), [["T1", "-"], ["T2"], ["T3", "-", "-"]])
        self.assertEqual(glue(rule, ["-", "-", "T2"]), [["-", "-"], ["T2"]])

    def test_marks_that_end(self):
        rule = Rule([], [DOT])
        self.assertEqual(glue(rule, ["a", ".", ".", "b", "c", ".", "d"]), [["a", "."], ["."], ["b", "c", "."], ["d"]])

    def test_marks_that_do_both(self):
        rule = Rule([TITLE, BOTH], [DOT, BOTH])
        self.assertEqual(glue(rule, ["T1", "x", "x", "-", "x", "."]), [["T1"], ["x"], ["x"], ["-"], ["x"], ["."]])
        gluer = Gluer(rule)
        self.assertEqual(gluer("T1"), [])
        self.assertEqual(gluer("x"), [(None, ["T1"]), (None, ["x"])])
        self.assertEqual(gluer.waiting(), [])

    def test_no_marks(self):
        self.assertEqual(glue(Rule([], []), ["a", "b"]), [["a", "b"]])
        self.assertEqual(glue(Rule([], []), []), [])
        self.assertEqual(glue(Rule.every_line(), ["a", "b"]), [["a"], ["b"]])

    def test_most(self):
        for most in (1, 2, 3, 20):
            lines = ["-"] * 41
            parts = [lines[at:at + most] for at in range(0, 41, most)]
            self.assertEqual(glue(Rule([], [], most=most), lines), parts)
        self.assertEqual(glue(Rule([TITLE], [], most=2), ["T1", "-", "-", "T2", "T3", "-"]),
                         [["T1", "-"], ["-"], ["T2"], ["T3", "-"]])
        self.assertEqual(glue(Rule([], [DOT], most=2), ["a", ".", "b", "c", "."]), [["a", "."], ["b", "c"], ["."]])

    def test_lines_thrown_away(self):
        rule = Rule([TITLE], [DOT], alone=False)
        self.assertEqual(glue(rule, ["-", "T1", ".", "-", ".", "T2", "T3", "-"]), [["T1", "."], ["T2"], ["T3", "-"]])
        self.assertEqual(glue(Rule([], [DOT], alone=False), ["a", ".", "b"]), [])
        self.assertEqual(glue(Rule([TITLE], [], alone=False, most=2), ["T1", "-", "-", "T2"]), [["T1", "-"], ["T2"]])
        gluer = Gluer(rule)
        self.assertEqual([gluer("-"), gluer("."), gluer.waiting(), gluer.many], [[], [], [], 0])

    def test_the_tag_is_ignored(self):
        gluer = Gluer(Rule([], [DOT]))
        self.assertEqual(gluer("a", 1), [])
        self.assertEqual(gluer("b", 2), [])
        self.assertEqual(gluer.waiting(), [(None, ["a", "b"])])
        self.assertEqual(gluer("."), [(None, ["a", "b", "."])])


class TagsTest(unittest.TestCase):
    def test_a_record_for_each_tag(self):
        gluer = Gluer(Rule([TITLE], [DOT], tags=0))
        for tag in range(12):
            self.assertEqual(gluer(f"T{tag}", tag), [])
        self.assertEqual(len(gluer.waiting()), 12)
        self.assertEqual(gluer(".", 3), [(3, ["T3", "."])])
        self.assertEqual(gluer("T2", 5), [(5, ["T5"])])
        self.assertEqual(gluer.waiting()[-1], (5, ["T2"]))
        self.assertEqual(gluer.many, 2)

    def test_so_many_tags_at_a_time(self):
        gluer = Gluer(Rule([TITLE], [DOT], tags=2))
        self.assertEqual(gluer("T0", 0) + gluer("T1", 1) + gluer("-", 0), [])
        # The last line of tag 1 came before the last line of tag 0.
        self.assertEqual(gluer("T2", 2), [(1, ["T1"])])
        self.assertEqual(gluer("T3", 0), [(0, ["T0", "-"])])
        self.assertEqual(gluer.waiting(), [(2, ["T2"]), (0, ["T3"])])
        self.assertEqual(gluer("-", 7), [(2, ["T2"])])
        self.assertEqual(gluer(".", 8), [(0, ["T3"]), (8, ["."])])
        self.assertEqual(gluer.waiting(), [(7, ["-"])])

    def test_one_tag_at_a_time(self):
        gluer = Gluer(Rule([], [], tags=1))
        self.assertEqual([gluer("a", 4), gluer("b", 4), gluer("c", 0), gluer("d", 4)],
                         [[], [], [(4, ["a", "b"])], [(0, ["c"])]])

    def test_a_line_thrown_away_gives_nothing_out(self):
        gluer = Gluer(Rule([TITLE], [], tags=1, alone=False))
        self.assertEqual(gluer("T1", 0), [])
        self.assertEqual(gluer("-", 1), [])
        self.assertEqual(gluer.waiting(), [(0, ["T1"])])

    def test_order_of_what_one_line_gives_out(self):
        gluer = Gluer(Rule([BOTH], [BOTH], tags=2, most=3))
        self.assertEqual(gluer("a", 0) + gluer("b", 1), [])
        self.assertEqual(gluer("x", 2), [(0, ["a"]), (2, ["x"])])
        self.assertEqual(gluer("x", 1), [(1, ["b"]), (1, ["x"])])

    def test_against_the_words_of_the_document(self):
        chance = random.Random(31)
        for _ in range(600):
            rule = random_rule(chance)
            rule.tags = chance.choice([None, 0, 1, 2, 3])
            rows = [(chance.randint(0, 4), chance.choice(["T1", "-", ".", "x"])) for _ in range(chance.randint(0, 25))]
            told = glued(rule, rows)
            gluer = Gluer(rule)
            for (tag, line), given in zip(rows, told):
                self.assertEqual(gluer(line, tag), [(mine, [rows[at][1] for at in at_all]) for mine, at_all in given])
            self.assertEqual(gluer.waiting(), [(mine, [rows[at][1] for at in at_all]) for mine, at_all in told[-1]])
            self.assertEqual(gluer.many, sum(len(given) for given in told[:-1]))
            self.assertEqual(glue_places(rule, rows), [record for given in told for record in given])


class PauseTest(unittest.TestCase):
    def test_pause(self):
        for quiet in (True, False):
            gluer = Gluer(Rule([], [DOT], tags=0, quiet=quiet))
            for line, tag in (("a", 2), ("b", 0), ("c", 1), ("d", 2)):
                gluer(line, tag)
            waiting = [(0, ["b"]), (1, ["c"]), (2, ["a", "d"])]
            self.assertEqual(gluer.waiting(), waiting)
            self.assertEqual(gluer.pause(), waiting if quiet else [])
            self.assertEqual(gluer.many, 3 if quiet else 0)
            self.assertEqual(gluer.waiting(), [] if quiet else waiting)
            self.assertEqual(gluer.pause(), [])
            self.assertEqual(gluer("e", 1), [])
            self.assertEqual(gluer.waiting()[-1], (1, ["e"] if quiet else ["c", "e"]))

    def test_finish(self):
        for quiet in (True, False):
            gluer = Gluer(Rule([TITLE], [], tags=0, quiet=quiet))
            for line, tag in (("T1", 1), ("T2", 0), ("-", 1)):
                gluer(line, tag)
            self.assertEqual(gluer.finish(), [(0, ["T2"]), (1, ["T1", "-"])])
            self.assertEqual([gluer.finish(), gluer.waiting(), gluer.many], [[], [], 2])
            self.assertEqual(gluer("-", 1), [])
            self.assertEqual(gluer.finish(), [(1, ["-"])])
            self.assertEqual(gluer.many, 3)

    def test_many(self):
        gluer = Gluer(Rule([TITLE], [DOT]))
        counts = []
        for line in ("T1", "T2", ".", "-", "T3"):
            gluer(line)
            counts.append(gluer.many)
        self.assertEqual(counts, [0, 1, 2, 2, 3])


class CopiesTest(unittest.TestCase):
    def test_the_rule_is_copied(self):
        rule = Rule([TITLE], [], tags=0)
        gluer = Gluer(rule)
        rule.change(most=1, alone=False, tags=None, quiet=True)
        self.assertEqual([gluer("-", 1), gluer("T1", 2), gluer.pause()], [[], [], []])
        self.assertEqual(gluer.waiting(), [(1, ["-"]), (2, ["T1"])])
        self.assertEqual(Gluer(rule)("T1", 2), [(None, ["T1"])])
        self.assertEqual([rule.most, rule.alone, rule.tags, rule.quiet], [1, False, None, True])

    def test_told_lists_may_be_changed(self):
        gluer = Gluer(Rule([TITLE], [], quiet=True))
        gluer("T1")
        waiting = gluer.waiting()
        waiting[0][1].append("y")
        waiting.clear()
        self.assertEqual(gluer.waiting(), [(None, ["T1"])])
        given = gluer("T2")
        given[0][1].clear()
        given.clear()
        self.assertEqual([gluer.waiting(), gluer.many], [[(None, ["T2"])], 1])
        gluer.pause().append(1)
        gluer.finish().append(1)
        self.assertEqual([gluer.waiting(), gluer.pause(), gluer.finish(), gluer.many], [[], [], [], 2])

    def test_gluers_know_nothing_of_each_other(self):
        rule = Rule([TITLE], [])
        one, other = Gluer(rule), Gluer(rule)
        one("T1")
        other("-")
        self.assertEqual([one.waiting(), other.waiting()], [[(None, ["T1"])], [(None, ["-"])]])


class GlueTest(unittest.TestCase):
    def test_pauses(self):
        lines = ["T1", None, "-", None, None, "T2", "-"]
        self.assertEqual(glue(Rule([TITLE], [], quiet=True), lines), [["T1"], ["-"], ["T2", "-"]])
        self.assertEqual(glue(Rule([TITLE], []), lines), [["T1", "-"], ["T2", "-"]])
        self.assertEqual(glue(Rule([TITLE], [], quiet=True, alone=False), lines), [["T1"], ["T2", "-"]])
        self.assertEqual(glue(Rule([], [], quiet=True), [None]), [])
        self.assertEqual(lines, ["T1", None, "-", None, None, "T2", "-"])

    def test_all_lines_have_one_tag(self):
        for tags in (None, 0, 1, 9):
            self.assertEqual(glue(Rule([TITLE], [], tags=tags), ["T1", "-", "T2"]), [["T1", "-"], ["T2"]])

    def test_places(self):
        rows = [(0, "T1"), (1, "T2"), (0, "-"), (1, "-"), (2, "."), (0, "T3")]
        rule = Rule([TITLE], [DOT])
        self.assertEqual(glue_places(rule, rows), [(None, [0]), (None, [1, 2, 3, 4]), (None, [5])])
        rule.tags = 0
        self.assertEqual(glue_places(rule, rows), [(2, [4]), (0, [0, 2]), (1, [1, 3]), (0, [5])])
        rule.tags = 1
        self.assertEqual(glue_places(rule, rows), [(0, [0]), (1, [1]), (0, [2]), (1, [3]), (2, [4]), (0, [5])])
        self.assertEqual(glue_places(rule, []), [])

    def test_places_of_lines_thrown_away(self):
        rows = [(0, "-"), (0, "T1"), (1, "-"), (0, "-")]
        self.assertEqual(glue_places(Rule([TITLE], [], alone=False, tags=0), rows), [(0, [1, 3])])


if __name__ == "__main__":
    unittest.main()
