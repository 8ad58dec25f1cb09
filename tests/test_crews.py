import itertools
import random
import unittest

from gluedlines.crews import Crew, is_crew_output, woven
from gluedlines.errors import NoCrew, NoRows
from gluedlines.grammars import Grammar
from gluedlines.outputs import is_output, is_record
from gluedlines.patterns import Form
from support import DOT, ITEM, TITLE, random_grammar, titled

DOTTED = Grammar([(ITEM, [1]), (DOT, [])], [0], [1])
DOTS = Grammar([(DOT, [])], [0], [0])


class CrewTest(unittest.TestCase):
    def refused(self, call):
        with self.assertRaises(NoCrew) as caught:
            call()
        return caught.exception.at

    def test_writers(self):
        for many in (1, 2, 3):
            crew = Crew(*[titled(), DOTTED, DOTS][:many])
            self.assertEqual(len(crew), many)
            for k in range(many):
                self.assertEqual(crew[k], [titled(), DOTTED, DOTS][k])

    def test_too_few_and_too_many(self):
        self.assertEqual(self.refused(lambda: Crew()), 0)
        self.assertEqual(self.refused(lambda: Crew(at_once=True)), 0)
        self.assertEqual(self.refused(lambda: Crew(DOTS, DOTS, DOTS, DOTS)), 3)
        self.assertEqual(self.refused(lambda: Crew(*[DOTS] * 7, at_once=True)), 3)

    def test_at_once(self):
        self.assertIs(Crew(DOTS).at_once, False)
        self.assertIs(Crew(DOTS, at_once=False).at_once, False)
        self.assertIs(Crew(DOTS, DOTTED, at_once=True).at_once, True)

    def test_another_grammar(self):
        crew = Crew(DOTS, DOTTED)
        other = Crew(DOTS, DOTTED)
        more = crew + DOTS
        crew[1] = titled()
        self.assertEqual(crew[1], titled())
        self.assertEqual(crew[0], DOTS)
        self.assertEqual(other[1], DOTTED)
        self.assertEqual(more[1], DOTTED)
        more[0] = DOTTED
        self.assertEqual(crew[0], DOTS)

    def test_one_more_behind(self):
        for at_once in (False, True):
            crew = Crew(DOTS, DOTTED, at_once=at_once)
            more = crew + titled()
            self.assertEqual([more[k] for k in range(len(more))], [DOTS, DOTTED, titled()])
            self.assertIs(more.at_once, at_once)
            self.assertEqual(len(crew), 2)

    def test_one_more_ahead(self):
        for at_once in (False, True):
            crew = Crew(DOTS, DOTTED, at_once=at_once)
            more = titled() + crew
            self.assertEqual([more[k] for k in range(len(more))], [titled(), DOTS, DOTTED])
            self.assertIs(more.at_once, at_once)
            self.assertEqual(len(crew), 2)

    def test_one_more_is_too_many(self):
        crew = Crew(DOTS, DOTS, DOTS)
        self.assertEqual(self.refused(lambda: crew + DOTS), 3)
        self.assertEqual(self.refused(lambda: DOTS + crew), 3)
        self.assertEqual(len(crew), 3)

    def test_a_crew_is_not_iterated_over(self):
        with self.assertRaises(TypeError):
            list(Crew(DOTS))


class WovenTest(unittest.TestCase):
    def refused(self, parts, order):
        with self.assertRaises(NoRows) as caught:
            woven(parts, order)
        return caught.exception.at

    def test_rows(self):
        parts = [["a", "b"], [], ["c"]]
        self.assertEqual(woven(parts, [0, 2, 0]), [(0, "a"), (2, "c"), (0, "b")])
        self.assertEqual(woven(parts, [2, 0, 0]), [(2, "c"), (0, "a"), (0, "b")])
        self.assertEqual(woven([[], []], []), [])
        self.assertEqual(woven([], []), [])
        self.assertEqual(parts, [["a", "b"], [], ["c"]])

    def test_no_writer(self):
        self.assertEqual(self.refused([["a"], ["b"]], [0, 2]), 1)
        self.assertEqual(self.refused([["a"], ["b"]], [-1, 0]), 0)
        self.assertEqual(self.refused([], [0]), 0)

    def test_no_line_left(self):
        self.assertEqual(self.refused([["a"], ["b", "c"]], [1, 0, 0]), 2)
        self.assertEqual(self.refused([["a"], []], [1, 0]), 0)

    def test_the_first_entry_is_told(self):
        self.assertEqual(self.refused([["a"], ["b"]], [0, 0, 5]), 1)
        self.assertEqual(self.refused([["a"], ["b"]], [0, 5, 0]), 1)

    def test_lines_left_over(self):
        self.assertEqual(self.refused([["a"], ["b", "c"]], [1, 0]), 2)
        self.assertEqual(self.refused([["a"]], []), 0)
        self.assertEqual(self.refused([["a"], ["b"]], [0]), 1)


class CrewOutputTest(unittest.TestCase):
    def test_line_by_line(self):
        crew = Crew(titled(), DOTTED)
        rows = [(0, "T1"), (1, "-"), (0, "-"), (1, "."), (0, "T2"), (0, "-")]
        self.assertIs(is_crew_output(crew, rows), True)
        self.assertIs(is_crew_output(crew, []), True)
        self.assertIs(is_crew_output(crew, rows[:1] + rows[2:3]), True)
        for at in (1, 3):
            self.assertIs(is_crew_output(crew, rows[:at] + rows[at + 1:]), False)
        self.assertIs(is_crew_output(crew, [(1 - writer, line) for writer, line in rows]), False)
        self.assertIs(is_crew_output(crew, rows + [(0, "x")]), False)

    def test_at_once(self):
        crew = Crew(titled(), DOTTED, at_once=True)
        self.assertIs(is_crew_output(crew, []), True)
        self.assertIs(is_crew_output(crew, [(0, "T1"), (0, "-"), (1, "-"), (1, "."), (0, "T2"), (1, "-"), (1, ".")]),
                      True)
        for rows in ([(0, "T1"), (1, "-"), (0, "-"), (1, ".")], [(1, "-"), (0, "T1"), (1, ".")],
                     [(0, "T1"), (1, "-"), (1, "."), (0, "-")], [(0, "T1"), (1, "-")], [(1, "."), (1, "-")]):
            self.assertIs(is_crew_output(crew, rows), False, rows)

    def test_a_record_that_another_writer_parts(self):
        # The line behind the row of the other writer could go on, but not begin.
        grammar = Grammar([(TITLE, [1]), (ITEM, [])], [0], [0, 1])
        rows = [(0, "T1"), (1, "."), (0, "-")]
        self.assertTrue(is_crew_output(Crew(grammar, DOTS), rows))
        self.assertFalse(is_crew_output(Crew(grammar, DOTS, at_once=True), rows))
        self.assertTrue(is_crew_output(Crew(grammar, DOTS, at_once=True), [(0, "T1"), (0, "-"), (1, ".")]))

    def test_writers_that_the_crew_does_not_have(self):
        for at_once in (False, True):
            crew = Crew(DOTS, DOTS, at_once=at_once)
            self.assertTrue(is_crew_output(crew, [(1, "."), (0, ".")]))
            for writer in (2, -1, 7):
                self.assertIs(is_crew_output(crew, [(writer, ".")]), False)
                self.assertIs(is_crew_output(crew, [(0, "."), (writer, "."), (1, ".")]), False)

    def test_all_short_rows(self):
        chance = random.Random(21)
        one_row = list(itertools.product((0, 1), ("T1", "-", ".")))
        for _ in range(8):
            grammars = [random_grammar(chance, 3), random_grammar(chance, 2)]
            for many in range(5):
                for rows in itertools.product(one_row, repeat=many):
                    parts = [[line for writer, line in rows if writer == k] for k in (0, 1)]
                    apart = all(is_output(grammar, lines) for grammar, lines in zip(grammars, parts))
                    self.assertIs(is_crew_output(Crew(*grammars), list(rows)), apart)
                    self.assertIs(is_crew_output(Crew(*grammars, at_once=True), list(rows)),
                                  self.at_once(grammars, rows))

    def at_once(self, grammars, rows):
        """Whether the rows can be split into records, by trying all first records."""
        for many in range(1, len(rows) + 1):
            writers = {writer for writer, _ in rows[:many]}
            if len(writers) == 1 and is_record(grammars[rows[0][0]], [line for _, line in rows[:many]]):
                if self.at_once(grammars, rows[many:]):
                    return True
        return len(rows) == 0

    def test_long_rows(self):
        rows = woven([["T1"] + ["-"] * 99, ["-", "."] * 50], [0, 1] * 100)
        self.assertTrue(is_crew_output(Crew(titled(), DOTTED), rows))
        self.assertFalse(is_crew_output(Crew(titled(), DOTTED, at_once=True), rows))
        self.assertTrue(is_crew_output(Crew(Grammar([(Form(Form.ANY), [0])], [0], [0]), DOTS, at_once=True),
                                       [(0, "a"), (0, "b"), (1, ".")] * 60))


if __name__ == "__main__":
    unittest.main()
