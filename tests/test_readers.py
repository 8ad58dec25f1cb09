import random
import unittest

from gluedlines.errors import NoOutput, NotEnough
from gluedlines.grammars import Grammar
from gluedlines.outputs import is_output
from gluedlines.patterns import Form
from gluedlines.readers import Reader
from gluedlines.readings import ahead_needed
from support import DOT, ITEM, TITLE, outputs_of, random_grammar, random_output, titled

ANY, TEXT = Form(Form.ANY), Form("T", Form.ANY)
LINES = ["T1", "-", ".", "x"]
PATTERNS = (TITLE, ITEM, DOT, TEXT, ANY, DOT | ITEM)
PAIR = Grammar([(ITEM, [1]), (DOT, [])], [0], [1])
LATE = Grammar([(ITEM, [1]), (ITEM, [2]), (DOT, [])], [0], [0, 2])


class ReaderCase(unittest.TestCase):
    def refused(self, call):
        with self.assertRaises(NoOutput) as caught:
            call()
        return caught.exception.at


class ReaderTest(ReaderCase):
    def test_not_enough(self):
        ring = Grammar([(ANY, [0])], [0], [0])
        for grammar, ahead, needed in ((titled(), 0, 1), (LATE, 1, 2), (LATE, 0, 2), (ring, 0, None), (ring, 60, None)):
            with self.assertRaises(NotEnough) as caught:
                Reader(grammar, ahead)
            self.assertEqual(caught.exception.needed, needed)
        Reader(titled(), 1)
        Reader(LATE, 2)
        Reader(PAIR, 0)

    def test_nothing_ahead(self):
        reader = Reader(PAIR, 0)
        self.assertEqual([reader("-"), reader("."), reader("-"), reader(".")], [[], [["-", "."]], [], [["-", "."]]])
        self.assertEqual(reader.finish(), [])

    def test_one_line_ahead(self):
        reader = Reader(titled(), 1)
        self.assertEqual([reader("T1"), reader("-"), reader("T2"), reader("T3"), reader("-")],
                         [[], [], [["T1", "-"]], [["T2"]], []])
        self.assertEqual(reader.finish(), [["T3", "-"]])

    def test_several_lines_ahead(self):
        reader = Reader(LATE, 2)
        self.assertEqual([reader(line) for line in ("-a", "-b", "-c", "-d", ".", "-e")],
                         [[], [], [["-a"]], [["-b"]], [], []])
        self.assertEqual(reader.finish(), [["-c", "-d", "."], ["-e"]])
        reader = Reader(LATE, 2)
        self.assertEqual([reader(line) for line in ("-a", "-b", "-c", ".", "-d", "-e")],
                         [[], [], [["-a"]], [], [], [["-b", "-c", "."]]])
        self.assertEqual(reader.finish(), [["-d"], ["-e"]])

    def test_more_ahead_than_needed(self):
        reader = Reader(PAIR, 3)
        self.assertEqual([reader(line) for line in ("-", ".", "-", ".", "-", ".")],
                         [[], [], [], [], [["-", "."]], []])
        self.assertEqual(reader.finish(), [["-", "."], ["-", "."]])
        reader = Reader(PAIR, 60)
        for _ in range(10):
            self.assertEqual([reader("-"), reader(".")], [[], []])
        self.assertEqual(reader.finish(), [["-", "."]] * 10)

    def test_finish_and_begin_anew(self):
        reader = Reader(titled(), 1)
        self.assertEqual(reader.finish(), [])
        for _ in range(2):
            self.assertEqual([reader("T1"), reader("-"), reader.finish(), reader.finish()],
                             [[], [], [["T1", "-"]], []])
        self.assertEqual(self.refused(lambda: reader("-")), 0)
        self.assertEqual([reader("T2"), reader("T3")], [[], [["T2"]]])
        self.assertEqual(self.refused(lambda: reader("x")), 2)

    def test_no_output_begins_so(self):
        reader = Reader(titled(), 1)
        for line in ("-", "x", ""):
            self.assertEqual(self.refused(lambda: reader(line)), 0)
        self.assertEqual([reader("T1"), reader("-")], [[], []])
        self.assertEqual(self.refused(lambda: reader("x")), 2)
        self.assertEqual(self.refused(lambda: reader("x")), 2)
        self.assertEqual(reader("T2"), [["T1", "-"]])
        self.assertEqual(self.refused(lambda: reader("T")), 3)
        self.assertEqual(reader.finish(), [["T2"]])
        self.assertEqual(self.refused(lambda: reader("-")), 0)

    def test_no_output_behind_records_that_were_given_out(self):
        reader = Reader(PAIR, 0)
        self.assertEqual([reader("-"), reader(".")], [[], [["-", "."]]])
        self.assertEqual(self.refused(lambda: reader(".")), 2)
        self.assertEqual(reader("-"), [])
        self.assertEqual(self.refused(lambda: reader("-")), 3)
        self.assertEqual(self.refused(reader.finish), 3)
        self.assertEqual(reader("."), [["-", "."]])
        self.assertEqual(reader.finish(), [])

    def test_a_finish_that_is_refused(self):
        reader = Reader(PAIR, 2)
        reader("-")
        self.assertEqual(self.refused(reader.finish), 1)
        self.assertEqual(self.refused(reader.finish), 1)
        self.assertEqual(reader("."), [])
        self.assertEqual(reader("-"), [])
        self.assertEqual(self.refused(reader.finish), 3)
        self.assertEqual(reader("."), [["-", "."]])
        self.assertEqual(reader.finish(), [["-", "."]])

    def test_told_lists_may_be_changed(self):
        reader = Reader(titled(), 1)
        reader("T1").append(1)
        given = reader("T2")
        given[0].append("-")
        given.clear()
        reader("-")
        self.assertEqual(reader.finish(), [["T2", "-"]])

    def test_long_outputs(self):
        reader = Reader(LATE, 2)
        given = []
        for line in ["-", "-", "-", "."] * 50:
            given += reader(line)
        self.assertEqual(given + reader.finish(), [["-"], ["-", "-", "."]] * 50)

    def test_random_outputs(self):
        chance = random.Random(81)
        found = {}
        while sum(found.values()) < 150:
            grammar = random_grammar(chance, 5, PATTERNS)
            needed = ahead_needed(grammar)
            if needed is not None:
                found[needed] = found.get(needed, 0) + 1
                ahead = needed + chance.choice([0, 0, 1, 4])
                reader = Reader(grammar, ahead)
                for _ in range(3):
                    self.check_output(grammar, reader, ahead, *random_output(chance, grammar, LINES, 12))
        self.assertLessEqual({0, 1, 2}, set(found))

    def test_more_lines_ahead_than_there_are_nodes(self):
        a, b = Form("a"), Form("b")
        grammar = Grammar([(b, [1]), (a, [5]), (b, [4]), (b, []), (b, [2, 5]), (a, [6]), (a | b, [3]), (a, [4])],
                          [0, 7], [3, 4])
        chance = random.Random(83)
        reader = Reader(grammar, 10)
        for _ in range(30):
            self.check_output(grammar, reader, 10, *random_output(chance, grammar, ["a", "b"], 40))

    def check_output(self, grammar, reader, ahead, lines, ways):
        given, due = [], []
        at = 0
        for way in ways:
            due.append((at + len(way) + ahead, lines[at:at + len(way)]))
            at += len(way)
        for many, line in enumerate(lines, 1):
            self.assertEqual(reader(line), [record for when, record in due if when == many])
        self.assertEqual(reader.finish(), [record for when, record in due if when > len(lines)])

    def test_all_short_lists(self):
        chance = random.Random(82)
        some = 0
        while some < 12:
            grammar = random_grammar(chance, 3, PATTERNS)
            needed = ahead_needed(grammar)
            if needed is not None:
                some += 1
                begun = {tuple(lines[:many]) for lines, _ in outputs_of(grammar, LINES, 6) for many in range(len(lines) + 1)}
                self.check_lists(grammar, needed, begun, [])

    def check_lists(self, grammar, needed, begun, lines):
        for line in LINES:
            if len(lines) < 3:
                reader = Reader(grammar, needed)
                for before in lines:
                    reader(before)
                if tuple(lines + [line]) in begun:
                    reader(line)
                    if not is_output(grammar, lines + [line]):
                        self.assertEqual(self.refused(reader.finish), len(lines) + 1)
                    self.check_lists(grammar, needed, begun, lines + [line])
                else:
                    self.assertEqual(self.refused(lambda: reader(line)), len(lines))


if __name__ == "__main__":
    unittest.main()
