import random
import unittest

from gluedlines.faces import faces
from gluedlines.grammars import Grammar
from gluedlines.patterns import Form
from gluedlines.rules import Rule
from gluedlines.tables import table
from support import DOT, ITEM, TITLE, random_grammar, random_rule, titled

TEXT = Form("T", Form.ANY)


class TableTest(unittest.TestCase):
    def test_small_tables(self):
        self.assertEqual(table(titled(), Rule([TITLE], [])), [" 0 FL ..b.  1 T<digits>", " 1 .L -...  1 -<any>"])
        self.assertEqual(table(Grammar([(DOT, [])], [0], [0]), Rule([], [])), [" 0 FL -...  0 ."])

    def test_first_and_last_nodes(self):
        grammar = Grammar([(ITEM, [1, 2, 3]), (DOT, [3]), (TITLE | DOT, []), (TEXT & TITLE, [0, 1])], [0], [1, 2])
        self.assertEqual(table(grammar, Rule([], [])), [
            " 0 F. -...  3 -<any>", " 1 .L -...  1 .", " 2 .L -...  0 (T<digits> | .)",
            " 3 .. -...  2 (T<any> & T<digits>)"])

    def test_each_face(self):
        one = Grammar([(TEXT, [])], [0], [0])
        for rule, signs in ((Rule([], []), "-..."), (Rule([TEXT], []), "..b."), (Rule([], [TEXT]), ".e.."),
                            (Rule([TEXT], [TEXT]), "...x"), (Rule([TITLE], []), "-.b."), (Rule([], [TITLE]), "-e.."),
                            (Rule([TITLE], [TITLE]), "-..x"), (Rule([TITLE], [TEXT]), ".e.x"),
                            (Rule([TEXT], [TITLE]), "..bx"), (Rule([TITLE], [Form("T", Form.ANY, "1")]), "-ebx"),
                            (Rule([Form("T", Form.WORD)], [TITLE]), "-eb."), (Rule([DOT], [DOT]), "-...")):
            self.assertEqual(table(one, rule), [f" 0 FL {signs}  0 T<any>"])

    def test_eight_nodes(self):
        nodes = [(ITEM, list(range(8))) for _ in range(8)]
        self.assertEqual(table(Grammar(nodes, [0], [7]), Rule([], [ITEM])),
                         [" 0 F. .e..  8 -<any>"] + [f" {k} .. .e..  8 -<any>" for k in range(1, 7)] +
                         [" 7 .L .e..  8 -<any>"])

    def test_numbers_take_two_columns(self):
        chance = random.Random(171)
        for _ in range(60):
            grammar, rule = random_grammar(chance, 8), random_rule(chance)
            rows = table(grammar, rule)
            self.assertEqual(len(rows), len(grammar))
            for k, row in enumerate(rows):
                self.assertEqual(row[:3], str(k).rjust(2) + " ")
                self.assertEqual(row[3:6], ("F" if k in grammar.firsts() else ".")
                                 + ("L" if k in grammar.lasts() else ".") + " ")
                found = [face for face, _ in faces(grammar[k], rule)]
                for sign, face, own in zip(row[6:10], ((False, False), (False, True), (True, False), (True, True)), "-ebx"):
                    self.assertEqual(sign, own if face in found else ".")
                self.assertEqual(row[10:14], " " + str(len(grammar.nexts(k))).rjust(2) + " ")
                self.assertEqual(row[14:], str(grammar[k]))


if __name__ == "__main__":
    unittest.main()
