import itertools
import random
import unittest

from gluedlines.grammars import Grammar
from gluedlines.patterns import Form
from gluedlines.ways import example, is_way, lead, rest, ways
from support import random_grammar, titled, walks

ANY = Form(Form.ANY)


def full():
    """A grammar of eight nodes in which each is a next of each."""
    return Grammar([(ANY, list(range(8)))] * 8, list(range(8)), list(range(8)))


class WaysTest(unittest.TestCase):
    def test_from_0_to_6_nodes(self):
        ring = [(0,), (0, 1), (0, 1, 1), (0, 1, 1, 1), (0, 1, 1, 1, 1), (0, 1, 1, 1, 1, 1)]
        for most in range(7):
            self.assertEqual(list(ways(titled(), most)), ring[:most])

    def test_shorter_ones_first_then_ascending(self):
        grammar = Grammar([(ANY, [2, 1]), (ANY, [2]), (ANY, [])], [2, 0, 1], [2])
        self.assertEqual(list(ways(grammar, 6)), [(2,), (0, 2), (1, 2), (0, 1, 2)])

    def test_first_nodes_that_are_no_last_ones(self):
        chain = Grammar([(ANY, [1]), (ANY, [2]), (ANY, [])], [0], [2])
        self.assertEqual(list(ways(chain, 2)), [])
        self.assertEqual(list(ways(chain, 3)), [(0, 1, 2)])

    def test_again_when_asked_again(self):
        grammar = titled()
        first = ways(grammar, 3)
        self.assertEqual(next(first), (0,))
        self.assertEqual(list(ways(grammar, 2)), [(0,), (0, 1)])
        self.assertEqual(list(first), [(0, 1), (0, 1, 1)])
        self.assertEqual(list(ways(grammar, 2)), [(0,), (0, 1)])

    def test_yields_tuples_one_by_one(self):
        self.assertTrue(all(isinstance(way, tuple) for way in ways(titled(), 4)))
        told = ways(full(), 6)
        self.assertEqual([next(told) for _ in range(9)], [(k,) for k in range(8)] + [(0, 0)])

    def test_many_ways(self):
        self.assertEqual(sum(1 for _ in ways(full(), 6)), sum(8 ** k for k in range(1, 7)))

    def test_against_all_walks(self):
        chance = random.Random(18)
        for _ in range(40):
            grammar = random_grammar(chance)
            expected = [way for many in range(1, 6) for way in walks(grammar, many)]
            self.assertEqual(list(ways(grammar, 5)), expected)


class IsWayTest(unittest.TestCase):
    def test_lists_and_tuples(self):
        for way, told in [([0], True), ([0, 1], True), ([0, 1, 1, 1], True), ([1], False), ([0, 0], False),
                          ([1, 1], False), ([0, 1, 0], False)]:
            self.assertIs(is_way(titled(), way), told)
            self.assertIs(is_way(titled(), tuple(way)), told)

    def test_the_empty_one(self):
        self.assertIs(is_way(titled(), []), False)
        self.assertIs(is_way(titled(), ()), False)

    def test_numbers_that_are_no_node(self):
        for way in ([2], [-1], [0, 2], [0, -1], [-2, 1], [0, 1, 99], [-2, -1], [0, -1, 1]):
            self.assertIs(is_way(titled(), way), False)
            self.assertIs(is_way(titled(), tuple(way)), False)

    def test_it_ends_with_a_last_node(self):
        chain = Grammar([(ANY, [1]), (ANY, [])], [0], [1])
        self.assertIs(is_way(chain, [0, 1]), True)
        self.assertIs(is_way(chain, [0]), False)
        self.assertIs(is_way(chain, [1]), False)

    def test_the_list_stays(self):
        way = [0, 1]
        is_way(titled(), way)
        self.assertEqual(way, [0, 1])

    def test_against_ways(self):
        chance = random.Random(19)
        for _ in range(30):
            grammar = random_grammar(chance, 3)
            told = list(ways(grammar, 4))
            for many in range(1, 5):
                for way in itertools.product(range(-1, len(grammar) + 1), repeat=many):
                    self.assertIs(is_way(grammar, way), way in told)


class LeadAndRestTest(unittest.TestCase):
    def test_of_a_first_and_a_last_node(self):
        self.assertEqual(lead(titled(), 0), [0])
        self.assertEqual(lead(titled(), 1), [0, 1])
        self.assertEqual(rest(titled(), 0), [0])
        self.assertEqual(rest(titled(), 1), [1])

    def test_of_a_long_chain(self):
        nodes = [(ANY, [k + 1]) for k in range(7)] + [(ANY, [])]
        chain = Grammar(nodes, [0], [7])
        for k in range(8):
            self.assertEqual(lead(chain, k), list(range(k + 1)))
            self.assertEqual(rest(chain, k), list(range(k, 8)))

    def test_a_shorter_way_behind_a_longer_one(self):
        nodes = [(ANY, [1]), (ANY, [2]), (ANY, [3]), (ANY, []), (ANY, [3])]
        grammar = Grammar(nodes, [0, 4], [3])
        self.assertEqual(lead(grammar, 3), [4, 3])
        self.assertEqual(rest(grammar, 4), [4, 3])
        self.assertEqual(rest(grammar, 0), [0, 1, 2, 3])

    def test_with_as_few_nodes_as_possible_for_every_node(self):
        chance = random.Random(20)
        for _ in range(60):
            grammar = random_grammar(chance)
            every = list(ways(grammar, 6)) + [way for way in walks(grammar, 7)]
            for k in range(len(grammar)):
                to, on = lead(grammar, k), rest(grammar, k)
                self.assertIsInstance(to, list)
                self.assertIsInstance(on, list)
                self.assertEqual((to[-1], on[0]), (k, k))
                self.assertTrue(is_way(grammar, to + on[1:]))
                self.assertEqual(len(to), min(way.index(k) + 1 for way in every if k in way))
                self.assertEqual(len(on), min(way[::-1].index(k) + 1 for way in every if k in way))

    def test_new_lists(self):
        grammar = titled()
        lead(grammar, 1).append(5)
        rest(grammar, 0).clear()
        self.assertEqual((lead(grammar, 1), rest(grammar, 0), grammar.firsts()), ([0, 1], [0], [0]))


class ExampleTest(unittest.TestCase):
    def test_least_lines(self):
        self.assertEqual(example(titled(), [0]), ["T0"])
        self.assertEqual(example(titled(), [0, 1, 1]), ["T0", "-", "-"])
        self.assertEqual(example(titled(), (0, 1)), ["T0", "-"])
        either = Grammar([(Form("b", Form.WORD) | Form("c"), [])], [0], [0])
        self.assertEqual(example(either, [0]), ["c"])

    def test_long_ways(self):
        self.assertEqual(example(titled(), [0] + [1] * 199), ["T0"] + ["-"] * 199)

    def test_a_new_list(self):
        way = [0, 1]
        example(titled(), way).clear()
        self.assertEqual(way, [0, 1])
        self.assertEqual(example(titled(), way), ["T0", "-"])


if __name__ == "__main__":
    unittest.main()
