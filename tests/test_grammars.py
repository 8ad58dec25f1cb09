import itertools
import random
import unittest

from gluedlines.errors import NoGrammar
from gluedlines.grammars import Grammar
from gluedlines.patterns import Form
from support import DOT, ITEM, TITLE, random_grammar, titled, walks

ANY = Form(Form.ANY)
NEVER = Form("a") & Form("b")


class ChecksTest(unittest.TestCase):
    def refused(self, part, at, nodes, firsts, lasts):
        with self.assertRaises(NoGrammar) as caught:
            Grammar(nodes, firsts, lasts)
        self.assertEqual((caught.exception.part, caught.exception.at), (part, at))

    def test_number_of_nodes(self):
        self.refused("nodes", None, [], [0], [0])
        self.refused("nodes", None, [], [], [])
        chain = [(ANY, [k + 1]) for k in range(8)] + [(ANY, [])]
        self.refused("nodes", None, chain, [0], [8])
        self.assertEqual(len(Grammar(chain[:7] + [(ANY, [])], [0], [7])), 8)
        self.assertEqual(len(Grammar([(ANY, [])], [0], [0])), 1)

    def test_nexts(self):
        self.refused("node", 0, [(ANY, [1, 1]), (ANY, [])], [0], [1])
        self.refused("node", 1, [(ANY, [1]), (ANY, [0, 1, 0])], [0], [1])
        self.refused("node", 1, [(ANY, [1]), (ANY, [2])], [0], [1])
        self.refused("node", 0, [(ANY, [-1]), (ANY, [7])], [0], [1])
        self.refused("node", 0, [(ANY, [0, 1])], [0], [0])

    def test_firsts_and_lasts(self):
        nodes = [(ANY, [1]), (ANY, [])]
        for bad in ([], [0, 0], [2], [-1], [0, 5]):
            self.refused("firsts", None, nodes, bad, [1])
            self.refused("lasts", None, nodes, [0], bad)
            self.refused("firsts", None, nodes, bad, bad)

    def test_reach(self):
        self.refused("reach", 1, [(ANY, []), (ANY, [])], [0], [0])
        self.refused("reach", 0, [(ANY, []), (ANY, [])], [1], [1])
        self.refused("reach", 1, [(ANY, [1]), (ANY, [1])], [0], [0])
        self.refused("reach", 1, [(ANY, []), (ANY, [0])], [0], [0])
        self.refused("reach", 0, [(ANY, [0]), (ANY, [])], [0], [1])
        self.refused("reach", 0, [(ANY, []), (ANY, [])], [0], [1])
        self.refused("reach", 2, [(ANY, [1]), (ANY, [0]), (ANY, [2]), (ANY, [3])], [0], [1])

    def test_lines(self):
        self.refused("line", 0, [(NEVER, [])], [0], [0])
        self.refused("line", 1, [(ANY, [1]), (NEVER, [2]), (NEVER, [])], [0], [2])

    def test_order(self):
        bad = (NEVER, [1, 1])
        self.refused("nodes", None, [bad] * 9, [], [])
        self.refused("node", 0, [bad, (NEVER, [9])], [], [9])
        self.refused("node", 1, [(NEVER, [1]), bad], [], [])
        self.refused("firsts", None, [(NEVER, []), (ANY, [])], [4], [])
        self.refused("lasts", None, [(NEVER, []), (ANY, [])], [0], [])
        self.refused("reach", 1, [(NEVER, []), (ANY, [])], [0], [0])
        self.refused("line", 0, [(NEVER, [1]), (NEVER, [])], [0], [1])

    def test_lists_stay(self):
        nexts, firsts, lasts = [1, 0], [1, 0], [1, 0]
        nodes = [(TITLE, nexts), (ITEM, [1])]
        Grammar(nodes, firsts, lasts)
        self.assertEqual((nexts, firsts, lasts, len(nodes)), ([1, 0], [1, 0], [1, 0], 2))

    def test_reach_against_all_walks(self):
        chance = random.Random(16)
        for _ in range(300):
            many = chance.randint(1, 3)
            nexts = [[k for k in range(many) if chance.random() < 0.4] for _ in range(many)]
            firsts, lasts = chance.sample(range(many), 1), chance.sample(range(many), 1)
            on = set()
            for steps in range(1, 2 * many + 1):
                for way in itertools.product(range(many), repeat=steps):
                    if way[0] in firsts and way[-1] in lasts and all(b in nexts[a] for a, b in zip(way, way[1:])):
                        on.update(way)
            off = [k for k in range(many) if k not in on]
            if off:
                self.refused("reach", off[0], [(ANY, row) for row in nexts], firsts, lasts)
            else:
                Grammar([(ANY, row) for row in nexts], firsts, lasts)


class GrammarTest(unittest.TestCase):
    def test_length_and_patterns(self):
        grammar = titled()
        self.assertEqual(len(grammar), 2)
        self.assertTrue(grammar[0] == TITLE and grammar[1] == ITEM)

    def test_ascending_lists(self):
        nodes = [(ANY, [2, 0, 1]), (ANY, [2, 1]), (ANY, [])]
        grammar = Grammar(nodes, [2, 0, 1], [2, 1])
        self.assertEqual([grammar.nexts(k) for k in range(3)], [[0, 1, 2], [1, 2], []])
        self.assertEqual(grammar.firsts(), [0, 1, 2])
        self.assertEqual(grammar.lasts(), [1, 2])

    def test_lists_that_were_handed_in_may_change(self):
        nexts, firsts, lasts = [1], [0], [0, 1]
        nodes = [(TITLE, nexts), (ITEM, [1])]
        grammar = Grammar(nodes, firsts, lasts)
        nexts.append(0)
        firsts.append(1)
        lasts.clear()
        nodes.clear()
        self.assertTrue(grammar == titled())
        self.assertEqual((grammar.nexts(0), grammar.firsts(), grammar.lasts()), ([1], [0], [0, 1]))

    def test_lists_that_were_told_may_change(self):
        grammar = titled()
        grammar.nexts(0).append(0)
        grammar.firsts().clear()
        grammar.lasts().append(5)
        self.assertTrue(grammar == titled())
        self.assertEqual((grammar.nexts(0), grammar.firsts(), grammar.lasts()), ([1], [0], [0, 1]))

    def test_longest(self):
        self.assertEqual(Grammar([(ANY, [])], [0], [0]).longest(), 1)
        self.assertIsNone(Grammar([(ANY, [0])], [0], [0]).longest())
        self.assertIsNone(titled().longest())
        for many in range(1, 9):
            chain = [(ANY, [k + 1]) for k in range(many - 1)] + [(ANY, [])]
            self.assertEqual(Grammar(chain, [0], [many - 1]).longest(), many)
            ring = [(ANY, [(k + 1) % many]) for k in range(many)]
            self.assertIsNone(Grammar(ring, [0], [many - 1]).longest())

    def test_longest_of_branches(self):
        nodes = [(ANY, [1, 4]), (ANY, [2]), (ANY, [3, 4]), (ANY, [4]), (ANY, []), (ANY, [])]
        self.assertEqual(Grammar(nodes, [0, 5], [4, 5]).longest(), 5)
        self.assertEqual(Grammar(nodes, [0, 1, 5], [0, 4, 5]).longest(), 5)
        backwards = [(ANY, []), (ANY, [0]), (ANY, [0, 1])]
        self.assertEqual(Grammar(backwards, [2], [0]).longest(), 3)

    def test_longest_against_all_walks(self):
        chance = random.Random(17)
        for _ in range(60):
            grammar = random_grammar(chance)
            lengths = [many for many in range(1, 7) if any(walks(grammar, many))]
            endless = any(True for many in range(len(grammar) + 1, 2 * len(grammar) + 1)
                          for _ in walks(grammar, many))
            self.assertEqual(grammar.longest(), None if endless else max(lengths))

    def test_equality(self):
        self.assertIs(titled() == titled(), True)
        self.assertIs(titled() != titled(), False)
        self.assertTrue(Grammar([(TITLE, [1]), (ITEM, [1])], [0], [1, 0]) == titled())
        for other in [Grammar([(TITLE, [1]), (DOT, [1])], [0], [0, 1]), Grammar([(TITLE, [1]), (ITEM, [])], [0], [0, 1]),
                      Grammar([(TITLE, [1]), (ITEM, [1])], [0, 1], [0, 1]), Grammar([(TITLE, [1]), (ITEM, [1])], [0], [1]),
                      Grammar([(ITEM, [0]), (TITLE, [0])], [1], [0, 1]), Grammar([(TITLE, [])], [0], [0])]:
            self.assertIs(titled() == other, False)
            self.assertIs(other == titled(), False)
            self.assertIs(titled() != other, True)

    def test_equal_to_nothing_else(self):
        for thing in [None, 0, "grammar", [], [(TITLE, [1]), (ITEM, [1])], TITLE, object()]:
            self.assertIs(titled() == thing, False)


class UnionTest(unittest.TestCase):
    def test_numbers_rise(self):
        one, other = titled(), Grammar([(DOT, [1]), (ANY, [0])], [0, 1], [1])
        both = one | other
        self.assertEqual(len(both), 4)
        self.assertTrue(both[0] == TITLE and both[1] == ITEM and both[2] == DOT and both[3] == ANY)
        self.assertEqual([both.nexts(k) for k in range(4)], [[1], [1], [3], [2]])
        self.assertEqual((both.firsts(), both.lasts()), ([0, 2, 3], [0, 1, 3]))
        back = other | one
        self.assertEqual([back.nexts(k) for k in range(4)], [[1], [0], [3], [3]])
        self.assertIs(back == both, False)

    def test_operands_stay(self):
        one, other = titled(), Grammar([(DOT, [])], [0], [0])
        both = one | other
        both.nexts(0).append(2)
        self.assertTrue(one == titled())
        self.assertTrue(other == Grammar([(DOT, [])], [0], [0]))
        self.assertTrue((one | one)[2] == TITLE)

    def test_records_of_both(self):
        both = titled() | Grammar([(DOT, [])], [0], [0])
        self.assertEqual(list(walks(both, 1)), [(0,), (2,)])
        self.assertEqual(list(walks(both, 2)), [(0, 1)])

    def test_at_most_eight_nodes(self):
        four = titled() | titled()
        self.assertEqual(len(four | four), 8)
        five = four | Grammar([(DOT, [])], [0], [0])
        for one, other in ((five, four), (four, five), (five, five)):
            with self.assertRaises(NoGrammar) as caught:
                one | other
            self.assertEqual((caught.exception.part, caught.exception.at), ("nodes", None))
        self.assertEqual((len(four), len(five)), (4, 5))


if __name__ == "__main__":
    unittest.main()
