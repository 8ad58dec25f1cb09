import copy
import random
import unittest

from gluedlines.cells import cells_of
from gluedlines.checker import lets
from gluedlines.grammars import Grammar
from gluedlines.outputs import follows
from gluedlines.papers import right_paper, wrong_paper
from gluedlines.patterns import Form
from gluedlines.rules import Rule
from gluedlines.scans import signs_for, step
from gluedlines.verdicts import is_right
from support import (DOT, ITEM, TITLE, got, outputs_of, paper_forms, places_of, pools, random_grammar, random_rule,
                     right_paper_holds, titled)

TEXT = Form("T", Form.ANY)
LINES = ["T", "T1", "-", "."]
PATTERNS = (TITLE, ITEM, DOT, TEXT, DOT | Form("x"))


def is_number(thing):
    return type(thing) is int


def is_state(forms, state):
    if type(state) is not tuple or len(state) != len(forms):
        return False
    for form, positions in zip(forms, state):
        cells = cells_of(form.parts())
        if type(positions) is not tuple or not all(is_number(k) and 0 <= k <= len(cells) for k in positions):
            return False
        if list(positions) != sorted(set(positions)):
            return False
        if any(k < len(cells) and cells[k] == Form.ANY and k + 1 not in positions for k in positions):
            return False
    return True


def is_right_kind(grammar, rule, paper):
    """Whether a tuple of three has the kinds of values of a right paper."""
    _, covers, places = paper
    if type(covers) is not list or len(covers) != len(grammar) or type(places) is not list:
        return False
    for k, states in enumerate(covers):
        if type(states) is not list or not all(is_state(paper_forms(grammar[k], rule), state) for state in states):
            return False
    return all(type(place) is tuple and len(place) == 2 and all(is_number(n) for n in place)
               and 0 <= place[0] < len(grammar) and place[1] >= 1 and (rule.most is not None or place[1] == 1)
               for place in places)


def wrong_paper_holds(grammar, rule, paper):
    _, lines, ways = paper
    if type(lines) is not list or type(ways) is not list:
        return False
    if not all(type(line) is str for line in lines):
        return False
    if not all(type(way) is list and all(is_number(k) for k in way) for way in ways):
        return False
    return follows(grammar, lines, ways) and got(rule, lines) != places_of(ways)


def holds(grammar, rule, paper):
    """Whether a paper holds, by the words of points 39 and 40."""
    if type(paper) is not tuple or len(paper) != 3:
        return False
    if paper[0] == "right":
        return is_right_kind(grammar, rule, paper) and right_paper_holds(grammar, rule, paper)
    return paper[0] == "wrong" and wrong_paper_holds(grammar, rule, paper)


def closure(forms, states):
    """These states and all to which signs lead."""
    found = list(states)
    for state in found:
        for sign in signs_for(forms):
            after = step(forms, state, sign)
            if after not in found:
                found.append(after)
    return found


def random_state(chance, forms):
    """Some state of the forms, whether lines lead to it or not."""
    state = []
    for form in forms:
        cells = cells_of(form.parts())
        found = {k for k in range(len(cells) + 1) if chance.random() < 0.3}
        state.append(tuple(sorted(found | {k + 1 for k in found if k < len(cells) and cells[k] == Form.ANY})))
    return tuple(state)


class LetsCase(unittest.TestCase):
    def check(self, grammar, rule, paper):
        """Check what is told of a paper by the words, and that nothing is changed; return it."""
        before = copy.deepcopy(paper)
        told = lets(grammar, rule, paper)
        self.assertIs(told, holds(grammar, rule, paper), paper)
        self.assertEqual(paper, before)
        return told

    def papers(self, seed, tries):
        """Grammars, rules and papers for them."""
        chance = random.Random(seed)
        for _ in range(tries):
            rule = random_rule(chance, PATTERNS)
            lone, long = pools(chance, rule, PATTERNS, 20)
            for grammar in lone[:1] + long[:2]:
                yield chance, grammar, rule, right_paper(grammar, rule)
            grammar = random_grammar(chance, 3, PATTERNS)
            if not is_right(grammar, rule):
                yield chance, grammar, rule, wrong_paper(grammar, rule)


class PapersThatHoldTest(LetsCase):
    def test_what_is_returned(self):
        words = {"right": 0, "wrong": 0}
        for _, grammar, rule, paper in self.papers(141, 60):
            self.assertTrue(self.check(grammar, rule, paper))
            words[paper[0]] += 1
        self.assertGreater(min(words.values()), 20)

    def test_another_order_and_twice(self):
        for chance, grammar, rule, (word, covers, places) in self.papers(142, 20):
            if word == "right":
                covers = [chance.sample(states * 2, 2 * len(states)) for states in covers]
                places = chance.sample(places * 3, 3 * len(places))
                self.assertTrue(self.check(grammar, rule, (word, covers, places)))

    def test_more_states(self):
        many = {True: 0, False: 0}
        for chance, grammar, rule, (word, covers, places) in self.papers(143, 40):
            if word == "right":
                for k in range(len(grammar)):
                    forms = paper_forms(grammar[k], rule)
                    # All positions empty: nothing fits any more.
                    dead = [tuple(() for _ in forms)]
                    self.assertTrue(self.check(grammar, rule, (word, covers[:k] + [covers[k] + dead] + covers[k + 1:],
                                                               places)))
                    more = covers[k] + closure(forms, [random_state(chance, forms)])
                    many[self.check(grammar, rule, (word, covers[:k] + [more] + covers[k + 1:], places))] += 1
        self.assertGreater(min(many.values()), 10)

    def test_more_places(self):
        grammar = Grammar([(TITLE, [1]), (ITEM, [2]), (DOT, [])], [0], [2])
        rule = Rule([TITLE], [], most=6)
        word, covers, places = right_paper(grammar, rule)
        self.assertEqual(sorted(places), [(0, 1), (1, 2), (2, 3)])
        for more, holding in (([(2, 5)], True), ([(2, 6)], True), ([(2, 7)], True), ([(1, 5), (2, 6)], True),
                              ([(0, 4), (1, 5), (2, 6)], True), ([(0, 5), (1, 6), (2, 7)], False), ([(1, 5)], False),
                              ([(1, 6), (2, 7)], False), ([(1, 7), (2, 8)], False), ([(2, 0)], False),
                              ([(3, 1)], False), ([(-1, 1)], False), ([(2, 10 ** 29)], True), ([(2, -1)], False)):
            self.assertIs(self.check(grammar, rule, (word, covers, places + more)), holding, more)
            self.assertIs(self.check(grammar, rule, (word, covers, more + places)), holding, more)

    def test_more_places_that_are_late(self):
        # A count of three lines would be late, and the rule begins no record.
        grammar = Grammar([(ITEM, [1]), (ITEM, [])], [0], [1])
        rule = Rule([], [], most=2)
        word, covers, places = right_paper(grammar, rule)
        self.assertFalse(self.check(grammar, rule, (word, covers, places + [(1, 1)])))
        self.assertFalse(self.check(grammar, rule, (word, covers, places + [(1, 3)])))
        self.assertTrue(self.check(grammar, rule, (word, covers, places + [(1, 2)])))

    def test_places_without_most(self):
        rule = Rule([TITLE], [])
        word, covers, places = right_paper(titled(), rule)
        for more, holding in (([(1, 1)], True), ([(1, 2)], False), ([(0, 2), (1, 3)], False)):
            self.assertIs(self.check(titled(), rule, (word, covers, places + more)), holding)
        # All nodes are reached, so every place is needed.
        self.assertFalse(self.check(titled(), rule, (word, covers, [(0, 1)])))
        self.assertFalse(self.check(titled(), rule, (word, covers, [(1, 1)])))
        self.assertFalse(self.check(titled(), rule, (word, covers, [])))

    def test_wrong_papers_by_hand(self):
        grammar, rule = titled(), Rule([TITLE], [Form("-x")])
        for lines, ways, holding in ((["T1", "-x", "-"], [[0, 1, 1]], True), (["T1", "-x", "T2"], [[0, 1], [0]], False),
                                     (["T1", "-x", "-"], [[0, 1], [1]], False), (["T1", "-x"], [[0, 1, 1]], False),
                                     ([], [], False), (["T1", "-x", "-x"], [[0, 1, 1]], True),
                                     (["T1", "-x", "-", "T1"], [[0, 1, 1], [0]], True),
                                     (["T", "-x", "-"], [[0, 1, 1]], False)):
            self.assertIs(self.check(grammar, rule, ("wrong", lines, ways)), holding)

    def test_wrong_outputs_along_one_of_two_ways(self):
        # The same lines are got rightly along one list of ways and wrongly along another one.
        grammar = Grammar([(ITEM, [1]), (ITEM, []), (ITEM, [])], [0, 2], [1, 2])
        rule = Rule([ITEM], [])
        self.assertTrue(self.check(grammar, rule, ("wrong", ["-", "-"], [[0, 1]])))
        self.assertFalse(self.check(grammar, rule, ("wrong", ["-", "-"], [[2], [2]])))

    def test_tags_and_quiet_have_no_effect(self):
        for tags in (None, 0, 1, 9):
            for quiet in (True, False):
                rule = Rule([TITLE], [], tags=tags, quiet=quiet)
                self.assertTrue(self.check(titled(), rule, right_paper(titled(), Rule([TITLE], []))))
                rule = Rule([], [DOT], tags=tags, quiet=quiet)
                self.assertTrue(self.check(titled(), rule, wrong_paper(titled(), Rule([], [DOT]))))


class PapersThatDoNotHoldTest(LetsCase):
    def test_papers_for_other_rules_and_grammars(self):
        found = list(self.papers(144, 25))
        many = {True: 0, False: 0}
        for at, (_, grammar, rule, _) in enumerate(found):
            for _, _, _, paper in found[at - 3:at + 3]:
                many[self.check(grammar, rule, paper)] += 1
        self.assertGreater(many[False], 100)

    def test_each_condition_of_the_faces(self):
        cover_all = lambda grammar, rule: [closure(paper_forms(grammar[k], rule), [tuple(
            (0, 1) if cells_of(form.parts())[0] == Form.ANY else (0,) for form in paper_forms(grammar[k], rule))])
            for k in range(len(grammar))]
        pair = Grammar([(TITLE, [1]), (ITEM, [])], [0], [1])
        lone = Grammar([(TITLE, []), (DOT, [])], [0, 1], [0, 1])
        for grammar, rule, holding in (
                (pair, Rule([TITLE], []), True), (pair, Rule([TITLE, ITEM], []), False),
                (pair, Rule([TITLE, Form("-x")], []), False), (pair, Rule([TITLE], [TITLE]), False),
                (pair, Rule([TITLE], [Form("T5")]), False), (pair, Rule([], [ITEM]), True),
                (pair, Rule([], [ITEM], alone=False), False), (pair, Rule([], [Form("-")]), False),
                (pair, Rule([Form("T5")], [ITEM]), True), (pair, Rule([Form("T5")], [ITEM], alone=False), False),
                (pair, Rule([Form("T5")], [Form("-")]), False), (pair, Rule([TITLE], [Form("-")]), True),
                (lone, Rule([TITLE], [DOT]), False), (lone, Rule([TITLE, DOT], []), True),
                (lone, Rule([TITLE], [TITLE, DOT]), True), (lone, Rule([TITLE], [TITLE, DOT], alone=False), False)):
            places = [(k, 1) for k in range(len(grammar))]
            self.assertIs(self.check(grammar, rule, ("right", cover_all(grammar, rule), places)), holding)
            self.assertIs(is_right(grammar, rule), holding)
        for most, holding in ((1, False), (2, True), (3, False)):
            paper = ("right", cover_all(pair, Rule([], [], most=most)), [(0, 1), (1, 2)])
            self.assertIs(self.check(pair, Rule([], [], most=most), paper), holding)

    def test_a_state_or_a_place_left_out(self):
        for _, grammar, rule, (word, covers, places) in self.papers(145, 12):
            if word == "right":
                for k, states in enumerate(covers):
                    for at in range(len(states)):
                        less = covers[:k] + [states[:at] + states[at + 1:]] + covers[k + 1:]
                        self.assertFalse(self.check(grammar, rule, (word, less, places)))
                for at in range(len(places)):
                    self.assertFalse(self.check(grammar, rule, (word, covers, places[:at] + places[at + 1:])))
                self.assertFalse(self.check(grammar, rule, (word, covers[:-1], places)))
                self.assertFalse(self.check(grammar, rule, (word, covers + covers[:1], places)))

    def test_positions_bent(self):
        odd = [-1, 99, 10 ** 20, True, False, None, "0", 0.0, 1.0, (0,), [0]]
        for _, grammar, rule, (word, covers, places) in self.papers(146, 6):
            if word == "right":
                for k, states in enumerate(covers):
                    state = states[-1]
                    for at, positions in enumerate(state):
                        bent = [positions + (thing,) for thing in odd] + [positions + positions[-1:], list(positions)]
                        bent += [positions[::-1], None, 0, "", dict.fromkeys(positions), set(positions)]
                        for other in bent:
                            more = states + [state[:at] + (other,) + state[at + 1:]]
                            self.check(grammar, rule, (word, covers[:k] + [more] + covers[k + 1:], places))
                    for other in (state[:-1], state + ((),), list(state), (), None, 0, "", str(state), (state,)):
                        more = states + [other]
                        self.assertFalse(self.check(grammar, rule, (word, covers[:k] + [more] + covers[k + 1:], places)))

    def test_truths_in_place_of_numbers(self):
        grammar, rule = Grammar([(DOT, [])], [0], [0]), Rule([], [DOT])
        states = [((0,), (0,)), ((), ()), ((1,), (1,))]
        self.assertTrue(self.check(grammar, rule, ("right", [states], [(0, 1)])))
        for places in ([(False, 1)], [(0, True)], [(False, True)], [(0, 1), (False, 1)], [(0, 1.0)], [(0, None)]):
            self.assertFalse(self.check(grammar, rule, ("right", [states], places)))
        for bent in (((False,), (0,)), ((0,), (False,)), ((True,), (1,)), ((0.0,), (0,))):
            self.assertFalse(self.check(grammar, rule, ("right", [states + [bent]], [(0, 1)])))
        rule = Rule([], [])
        for ways in ([[0], [False]], [[0], [0.0]], [[0], [None]], [[0], (0,)], [[0], "0"], [[0], 0]):
            self.assertFalse(self.check(grammar, rule, ("wrong", [".", "."], ways)))
        self.assertTrue(self.check(grammar, rule, ("wrong", [".", "."], [[0], [0]])))

    def test_open_positions_that_are_not_closed(self):
        # A state from which an <any> that may stand for no sign was not passed.
        grammar = Grammar([(Form(Form.ANY, "."), [])], [0], [0])
        rule = Rule([], [DOT, Form(Form.ANY, ".")])
        word, covers, places = right_paper(grammar, rule)
        self.assertTrue(self.check(grammar, rule, (word, covers, places)))
        forms = paper_forms(grammar[0], rule)
        for state, holding in ((((0, 1), (0,), (0, 1)), True), (((1,), (0,), (0, 1)), True), (((0, 1), (0,), (1,)), False),
                               (((0,), (0,), (0, 1)), False), (((0, 2), (0,), (0, 1)), False), (((0,), (), (0,)), False)):
            # With this state stand all to which signs lead from it.
            paper = (word, [covers[0] + closure(forms, [state])], places)
            self.assertIs(self.check(grammar, rule, paper), holding, state)

    def test_shapes_bent(self):
        for _, grammar, rule, (word, one, other) in self.papers(147, 8):
            paper = (word, one, other)
            for bent in ((word, other, one), (word, tuple(one), other), (word, one, tuple(other)), list(paper),
                         (word, one), (word, one, other, None), (one, other), ("right ", one, other), (None, one, other),
                         ("wrong" if word == "right" else "right", one, other), (b"right", one, other),
                         (word, [tuple(part) for part in one], other), (word, one, [list(part) for part in other] + [[]]),
                         (word, one, [tuple(part) for part in other] + [()]), (word, dict(enumerate(one)), other),
                         (word, one, None), (word, None, other), (word, str(one), other), ((word,), one, other),
                         (word, one, [str(part) for part in other]), (word, one, other + [None])):
                self.assertFalse(self.check(grammar, rule, bent), bent)

    def test_wrong_papers_bent(self):
        for chance, grammar, rule, (word, lines, ways) in self.papers(148, 25):
            if word == "wrong":
                bent = [(lines[:-1], ways), (lines + ["."], ways), (lines, ways[:-1]), (lines, ways + [[]]),
                        (lines, ways + [[0]]), (lines[::-1], ways), (lines, ways[::-1]), ([None] + lines, ways),
                        (lines[:-1] + [None], ways), (lines[:-1] + [[lines[-1]]], ways), (lines[:-1] + [""], ways),
                        (lines[:-1] + [lines[-1] + "\n"], ways), (lines, ways[:-1] + [ways[-1] + [9]]),
                        (lines, ways[:-1] + [ways[-1][:-1] + [9]]), (lines, ways[:-1] + [ways[-1][:-1] + [-1]]),
                        (lines, ways[:-1] + [tuple(ways[-1])]), (lines, [sum(ways, [])]), (lines + lines, ways + ways)]
                for other_lines, other_ways in bent:
                    self.check(grammar, rule, (word, other_lines, other_ways))
                    self.assertFalse(self.check(grammar, rule, (word, tuple(other_lines), other_ways)))

    def test_odd_things(self):
        ring = []
        ring.append(ring)
        things = [None, True, False, 0, 1, -1, 2.5, "", "right", "wrong", b"right", [], (), {}, set(), frozenset(), [[]],
                  ((),), [[[]]], {"right": []}, {1, 2}, object(), len, Rule, titled(), Rule([], []), Form("x"), range(3),
                  ring, ("right",), ("right", [], []), ("wrong", [], []), ("right", None, None), ("wrong", None, None),
                  ("right", {}, {}), ("wrong", set(), set()), ("right", [[], []], []), ("right", [[()], [()]], [()]),
                  ("right", [[[]], [[]]], [[]]), ("wrong", [[]], [[]]), ("wrong", [None], [None]),
                  ("right", ring, ring), ("wrong", ring, ring), ("right", [ring, ring], [ring]), ("wrong", "T1", [[0]]),
                  ("right", [[{}], [{}]], [{}]), ("right", [[(set(),)], [([],)]], [(0, {})]), ([], [], []),
                  ("right", "ab", "cd"), ("wrong", ["T1"], "0"), ("right", 0, 0), ("wrong", 1, 1)]
        for thing in things:
            for rule in (Rule([TITLE], []), Rule([], [])):
                self.assertIs(lets(titled(), rule, thing), False)

    def test_what_is_accepted_is_true(self):
        accepted = 0
        for chance, grammar, rule, paper in self.papers(149, 40):
            for _ in range(4):
                other = random_rule(chance, PATTERNS)
                if paper[0] == "right":
                    forms = [paper_forms(grammar[k], other) for k in range(len(grammar))]
                    paper = ("right", [closure(some, [tuple((0, 1) if cells_of(form.parts())[0] == Form.ANY else (0,)
                                                           for form in some)]) for some in forms],
                             [(k, count) for k in range(len(grammar)) for count in range(1, 4 if other.most else 2)
                              if count == 1 or chance.random() < 0.5])
                if self.check(grammar, other, paper):
                    accepted += 1
                    self.assertIs(is_right(grammar, other), paper[0] == "right")
                    if paper[0] == "right":
                        for lines, ways in outputs_of(grammar, LINES, 4):
                            self.assertEqual(got(other, lines), places_of(ways))
        self.assertGreater(accepted, 30)


if __name__ == "__main__":
    unittest.main()
