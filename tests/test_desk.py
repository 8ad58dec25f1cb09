import random
import unittest

from gluedlines.crewverdicts import breaking_number
from gluedlines.desk import Desk, Trial
from gluedlines.errors import GlueError, NoChange, NoForm, NoGrammar, NoName, NoRow, NoRule, NoText
from gluedlines.grammars import Grammar
from gluedlines.patterns import Form
from gluedlines.patterntexts import read_pattern
from gluedlines.readings import ahead_needed
from gluedlines.rules import Rule
from gluedlines.tables import table
from gluedlines.verdicts import wrong_output

TITLED = ["form title T<digits>", "form item -<any>", "node title", "node item", "next 0 1", "next 1 1", "first 0",
          "last 0", "last 1"]
ASKING = ["verdict", "ahead", "writers", "table"]


def desk_with(*rows):
    desk = Desk()
    for row in rows:
        desk.say(row)
    return desk


def seen(desk):
    """All that can be asked of a desk, and what becomes of some lines; the desk stays as it is."""
    names = desk.say("names")
    found = [names, desk.say("open")]
    tries = [[row] for row in ASKING] + [["line T1", "line -", "line .", "close"], ["node " + name for name in names[:1]]]
    # What each name stands for.
    tries += [["clear", "node " + name, "first 0", "last 0", "unmark", "table"] for name in names]
    for rows in tries:
        try:
            found.append(desk.tried(rows))
        except (GlueError, NoName) as error:
            found.append((error.__class__, vars(error)))
    return found


class DeskCase(unittest.TestCase):
    def check_error(self, desk, row, kind, value):
        """Check the error of a row, and that nothing is changed by it."""
        before = seen(desk)
        with self.assertRaises(kind) as caught:
            desk.say(row)
        self.assertIs(caught.exception.__class__, kind)
        self.assertEqual(list(vars(caught.exception).values())[0], value)
        self.assertEqual(seen(desk), before)
        return caught.exception

    def check_no_row(self, desk, row):
        self.check_error(desk, row, NoRow, row)


class SetupRowsTest(DeskCase):
    def test_a_new_desk(self):
        desk = Desk()
        self.assertEqual(desk.say("names"), [])
        self.assertEqual(desk.say("open"), [])
        self.assertEqual(desk.say("close"), [])
        for row in ASKING:
            error = self.check_error(desk, row, NoGrammar, "nodes")
            self.assertIsNone(error.at)
        # The rule is the one without marks.
        self.assertEqual([desk.say("line " + line) for line in ("a", "b")], [[], []])
        self.assertEqual(desk.say("close"), ["a / b"])
        self.check_error(desk, "undo", NoChange, 0)

    def test_form(self):
        desk = Desk()
        self.assertEqual(desk.say("form title T<digits>"), [])
        self.assertEqual(desk.say("form a (x<word> | (y & <any>))"), [])
        self.assertEqual(desk.say("names"), ["a", "title"])
        desk = desk_with("form a (x<word> | (y & <any>))", "node a", "first 0", "last 0")
        self.assertEqual(desk.say("table"), [" 0 FL -...  0 (x<word> | (y & <any>))"])

    def test_texts_with_blanks(self):
        for text in (" x", "x ", " ", "  ", "a  b", " a  ", " <any> ", "( a | b )", "(a  | b)"):
            desk = desk_with("form a " + text, "node a", "first 0", "last 0")
            self.assertEqual(desk.say("table"), [" 0 FL -...  0 " + text])
            self.assertEqual(desk.say("table"), table(Grammar([(read_pattern(text), [])], [0], [0]), Rule([], [])))
        self.check_no_row(Desk(), "form a ")
        self.check_no_row(Desk(), "form  a")
        self.check_no_row(Desk(), "form  a x")

    def test_form_of_a_name_that_stands_for_something(self):
        desk = desk_with("form a x", "node a", "begin a", "end a", "first 0", "last 0", "form a y")
        self.assertEqual(desk.say("names"), ["a"])
        self.assertEqual(desk.say("table"), [" 0 FL ...x  0 x"])
        self.assertEqual(desk.say("node a"), ["1"])
        desk.say("last 1")
        desk.say("first 1")
        self.assertEqual(desk.say("table"), [" 0 FL ...x  0 x", " 1 FL -...  0 y"])
        self.assertEqual(desk.say("begin a"), [])
        self.assertEqual(desk.say("table"), [" 0 FL ...x  0 x", " 1 FL ..b.  0 y"])
        for row in ("undo", "undo", "undo", "undo", "undo"):
            self.assertEqual(desk.say(row), [])
        desk.say("node a")
        for row in ("first 1", "last 1"):
            desk.say(row)
        self.assertEqual(desk.say("table"), [" 0 FL ...x  0 x", " 1 FL ...x  0 x"])

    def test_nodes(self):
        desk = desk_with("form a x", "form b y")
        self.assertEqual([desk.say("node " + name) for name in "abaabbba"], [[str(k)] for k in range(8)])
        for row in ("node a", "node b"):
            self.check_no_row(desk, row)
        self.assertEqual(desk.say("clear"), [])
        self.assertEqual(desk.say("node b"), ["0"])

    def test_nexts_firsts_and_lasts(self):
        desk = desk_with("form a x", "node a", "node a", "node a")
        for row in ("next 0 1", "next 0 0", "next 1 2", "next 0 1", "first 0", "first 0", "first 2", "last 2", "last 2"):
            self.assertEqual(desk.say(row), [])
        self.assertEqual(desk.say("table"), [" 0 F. -...  2 x", " 1 .. -...  1 x", " 2 FL -...  0 x"])
        self.assertEqual(desk.say("next 2 0"), [])
        self.assertEqual(desk.say("table")[2], " 2 FL -...  1 x")

    def test_clear(self):
        desk = desk_with(*TITLED, "begin title")
        self.assertEqual(desk.say("clear"), [])
        self.assertEqual(desk.say("names"), ["item", "title"])
        self.check_error(desk, "verdict", NoGrammar, "nodes")
        for row in ("first 0", "last 0", "next 0 0", "next 0 1"):
            self.check_no_row(desk, row)
        # No first and no last node is left either.
        desk.say("node item")
        self.check_error(desk, "verdict", NoGrammar, "firsts")
        desk.say("first 0")
        self.check_error(desk, "verdict", NoGrammar, "lasts")
        desk.say("last 0")
        self.assertEqual(desk.say("table"), [" 0 FL -...  0 -<any>"])

    def test_marks(self):
        desk = desk_with(*TITLED)
        self.assertEqual(desk.say("verdict"), ["wrong", "2"])
        self.assertEqual(desk.say("begin title"), [])
        self.assertEqual(desk.say("verdict"), ["right"])
        self.assertEqual(desk.say("end item"), [])
        self.assertEqual(desk.say("verdict"), ["wrong", "3"])
        self.assertEqual(desk.say("table"), [" 0 FL ..b.  1 T<digits>", " 1 .L .e..  1 -<any>"])
        self.assertEqual(desk.say("unmark"), [])
        self.assertEqual(desk.say("table"), [" 0 FL -...  1 T<digits>", " 1 .L -...  1 -<any>"])

    def test_unmark_keeps_the_settings(self):
        desk = desk_with("form a a", "most 2", "alone no", "begin a", "end a", "unmark")
        self.assertEqual(desk.tried(["line a", "line a", "close"]), [[], [], []])
        desk.say("alone yes")
        self.assertEqual(desk.tried(["line a", "line a", "line a", "close"]), [[], ["a / a"], [], ["a"]])

    def test_too_many_marks(self):
        desk = desk_with("form a a", "begin a", "end a", "begin a", "end a", "begin a", "end a")
        for row in ("begin a", "end a"):
            self.check_error(desk, row, NoRule, "marks")

    def test_settings(self):
        desk = desk_with("form a a", "form b b")
        lines = ["line a", "line b", "line a", "close"]
        self.assertEqual(desk.tried(["most 2"] + lines), [[], [], ["a / b"], [], ["a"]])
        self.assertEqual(desk.tried(["most 1"] + lines), [[], ["a"], ["b"], ["a"], []])
        self.assertEqual(desk.tried(["most 1", "most -"] + lines), [[], [], [], [], [], ["a / b / a"]])
        self.assertEqual(desk.tried(["most 20", "begin b"] + lines), [[], [], [], ["a"], [], ["b / a"]])
        self.assertEqual(desk.tried(["alone no"] + lines), [[]] * 5)
        self.assertEqual(desk.tried(["alone no", "begin b"] + lines), [[], [], [], [], [], ["b / a"]])
        self.assertEqual(desk.tried(["alone no", "alone yes"] + lines), [[], [], [], [], [], ["a / b / a"]])
        for row in ("tags 0", "tags 1", "tags 9", "tags -"):
            self.assertEqual(desk.tried([row] + lines), [[], [], [], [], ["a / b / a"]])

    def test_tags(self):
        desk = desk_with(*TITLED, "begin title")
        for row, answer in (("tags -", "2"), ("tags 0", "none"), ("tags 1", "2"), ("tags 9", "10"), ("tags 4", "5")):
            self.assertEqual(desk.say(row), [])
            self.assertEqual(desk.say("writers"), [answer])

    def test_settings_that_a_rule_refuses(self):
        desk = Desk()
        for row, field in (("most 0", "most"), ("most 21", "most"), ("most 99", "most"), ("tags 10", "tags"),
                           ("tags 99", "tags")):
            self.check_error(desk, row, NoRule, field)

    def test_a_new_gluer(self):
        rows = ["form b y", "form a x", "node a", "next 0 0", "first 0", "last 0", "begin a", "end b", "unmark", "most 3",
                "tags 0", "alone yes", "undo", "clear"]
        for row in rows:
            desk = desk_with("form b b", "form a a", "node a", "line x", "line y")
            self.assertEqual(desk.say("open"), ["x / y"])
            desk.say(row)
            self.assertEqual(desk.say("open"), [])
            self.assertEqual(desk.say("close"), [])
        for row in ("names", "open"):
            desk = desk_with("form a a", "line x", row)
            self.assertEqual(desk.say("open"), ["x"])
        desk = desk_with("form a a", "node a", "first 0", "last 0", "line x")
        for row in ASKING:
            desk.say(row)
            self.assertEqual(desk.say("open"), ["x"])

    def test_the_gluer_goes_by_the_rule_as_it_is_now(self):
        desk = desk_with("form a a", "begin a", "line a")
        self.assertEqual(desk.say("line a"), ["a"])
        desk.say("unmark")
        desk.say("line a")
        self.assertEqual(desk.say("line a"), [])
        desk.say("undo")
        desk.say("line a")
        self.assertEqual(desk.say("line a"), ["a"])


class UndoTest(DeskCase):
    def test_undo_of_each_kind_of_row(self):
        start = [*TITLED, "begin title", "end item", "most 3"]
        for row in ("form other x", "form title x", "node item", "next 0 0", "first 1", "last 1", "clear", "begin item",
                    "end title", "unmark", "most 7", "most -", "tags 3", "tags -", "alone no", "alone yes", "next 0 1"):
            desk = desk_with(*start)
            before = seen(desk)
            desk.say(row)
            self.assertEqual(desk.say("undo"), [])
            self.assertEqual(seen(desk), before)
            # The row before that one is the next to be undone.
            self.assertEqual(desk.say("undo"), [])
            self.assertEqual(seen(desk), seen(desk_with(*start[:-1])))

    def test_all_rows_are_undone_one_by_one(self):
        rows = [*TITLED, "begin title", "alone no", "form item x", "clear", "node item", "tags 0", "unmark", "first 0"]
        desk = Desk()
        states = []
        for row in rows:
            states.append(seen(desk))
            desk.say(row)
        for state in states[::-1]:
            self.assertEqual(desk.say("undo"), [])
            self.assertEqual(seen(desk), state)
        self.check_error(desk, "undo", NoChange, 0)
        # What was undone does not come back.
        desk.say("form a x")
        self.assertEqual(desk.say("undo"), [])
        self.check_error(desk, "undo", NoChange, 0)

    def test_rows_that_leave_the_setup_as_it_is(self):
        desk = desk_with("form a x", "node a", "first 0", "first 0", "most -", "form a x")
        for many in (5, 4, 3):
            self.assertEqual(desk.say("undo"), [])
            self.check_error(desk, "verdict", NoGrammar, "lasts")
        desk.say("undo")
        self.check_error(desk, "verdict", NoGrammar, "firsts")
        desk.say("undo")
        self.check_error(desk, "verdict", NoGrammar, "nodes")
        desk.say("undo")
        self.assertEqual(desk.say("names"), [])
        self.check_error(desk, "undo", NoChange, 0)

    def test_undo_between_rows(self):
        desk = desk_with("form a x", "form b y", "undo", "form c z")
        self.assertEqual(desk.say("names"), ["a", "c"])
        desk.say("undo")
        self.assertEqual(desk.say("names"), ["a"])
        desk.say("undo")
        self.assertEqual(desk.say("names"), [])

    def test_rows_that_are_not_undone(self):
        desk = desk_with(*TITLED, "line T1", "open", "verdict", "ahead", "writers", "table", "names", "close")
        self.assertEqual(desk.say("undo"), [])
        self.check_error(desk, "table", NoGrammar, "reach")
        self.assertEqual(desk.say("last 1"), [])
        self.assertEqual([row[3:5] for row in desk.say("table")], ["FL", ".L"])

    def test_a_row_that_is_refused_is_not_undone(self):
        desk = desk_with("form a x")
        for row in ("form A x", "form b (", "node b", "most 0", "first 0", "x"):
            self.assertRaises((GlueError, NoName), desk.say, row)
        self.assertEqual(desk.say("undo"), [])
        self.assertEqual(desk.say("names"), [])

    def test_undo_with_nothing_keeps_the_gluer(self):
        desk = desk_with("line x")
        self.check_error(desk, "undo", NoChange, 0)
        self.assertEqual(desk.say("open"), ["x"])


class OtherRowsTest(DeskCase):
    def test_lines(self):
        desk = desk_with("form title T<digits>", "begin title")
        for row, answer in (("line T1", []), ("line -", []), ("line T2", ["T1 / -"]), ("open", ["T2"]), ("line  x", []),
                            ("line y ", []), ("line a  b", []), ("line  ", []), ("open", ["T2 /  x / y  / a  b /  "]),
                            ("close", ["T2 /  x / y  / a  b /  "]), ("open", []), ("close", []), ("line -", []),
                            ("line T3", ["-"]), ("close", ["T3"])):
            self.assertEqual(desk.say(row), answer)

    def test_a_line_that_gives_out_two_records(self):
        desk = desk_with("form title T<digits>", "form item -", "begin title", "end title", "line -")
        self.assertEqual(desk.say("line T1"), ["-", "T1"])

    def test_no_lines(self):
        desk = desk_with("line x")
        for text in ("a\n", "a\tb", "%", "(", "<any>", "\u00e9", "\u0663", "a/b", "_"):
            self.check_no_row(desk, "line " + text)
        for row in ("line", "line "):
            self.check_no_row(desk, row)
        self.assertEqual(desk.say("open"), ["x"])

    def test_verdicts(self):
        desk = desk_with(*TITLED)
        self.assertEqual([desk.say(row) for row in ASKING], [["wrong", "2"], ["1"], ["1"], [
            " 0 FL -...  1 T<digits>", " 1 .L -...  1 -<any>"]])
        desk.say("begin title")
        self.assertEqual([desk.say(row) for row in ASKING[:3]], [["right"], ["1"], ["2"]])
        desk.say("most 12")
        self.assertEqual(desk.say("verdict"), ["wrong", "13"])

    def test_none(self):
        desk = desk_with("form a x", "node a", "node a", "next 0 1", "first 0", "first 1", "last 0", "last 1")
        self.assertEqual(desk.say("ahead"), ["none"])
        desk = desk_with("form a x", "node a", "first 0", "last 0", "begin a")
        self.assertEqual([desk.say(row) for row in ASKING[:3]], [["right"], ["0"], ["none"]])

    def test_many_desks(self):
        chance = random.Random(181)
        for _ in range(120):
            desk, nodes, firsts, lasts, marks = Desk(), [], [], [], ([], [])
            texts = {"a": "T<digits>", "b": "-<any>", "c": ".", "d": "(T<any> | x)"}
            for name, text in texts.items():
                desk.say(f"form {name} {text}")
            for _ in range(chance.randint(3, 12)):
                name, k, after = chance.choice("abcd"), chance.randint(0, 3), chance.randint(0, 3)
                row = chance.choice([f"node {name}", f"next {k} {after}", f"first {k}", f"last {k}", f"begin {name}", f"end {name}"])
                words = row.split()
                if words[0] == "node":
                    if len(nodes) == 8:
                        continue
                    nodes.append((read_pattern(texts[name]), []))
                elif words[0] in ("begin", "end"):
                    some = marks[words[0] == "end"]
                    if len(marks[0]) + len(marks[1]) == 6:
                        continue
                    some.append(read_pattern(texts[name]))
                elif any(int(word) >= len(nodes) for word in words[1:]):
                    self.assertRaises(NoRow, desk.say, row)
                    continue
                else:
                    some = {"next": nodes[k][1] if words[0] == "next" else None, "first": firsts, "last": lasts}[words[0]]
                    number = int(words[-1])
                    if number not in some:
                        some.append(number)
                desk.say(row)
            self.check_verdicts(desk, nodes, firsts, lasts, Rule(*marks))

    def check_verdicts(self, desk, nodes, firsts, lasts, rule):
        try:
            grammar = Grammar(nodes, firsts, lasts)
        except NoGrammar as error:
            for row in ASKING:
                found = self.check_error(desk, row, NoGrammar, error.part)
                self.assertEqual(found.at, error.at)
            return
        told = wrong_output(grammar, rule)
        self.assertEqual(desk.say("verdict"), ["right"] if told is None else ["wrong", str(len(told[0]))])
        for row, number in (("ahead", ahead_needed(grammar)), ("writers", breaking_number(grammar, rule))):
            self.assertEqual(desk.say(row), ["none" if number is None else str(number)])
        self.assertEqual(desk.say("table"), table(grammar, rule))

    def test_names(self):
        desk = desk_with("form b x", "form ab y", "form a z", "form b z", "form abcdefgh x")
        self.assertEqual(desk.say("names"), ["a", "ab", "abcdefgh", "b"])
        desk.say("names").append("x")
        self.assertEqual(desk.say("names"), ["a", "ab", "abcdefgh", "b"])


class RefusedRowsTest(DeskCase):
    def desk(self):
        return desk_with(*TITLED, "begin title", "line T1", "line -")

    def test_what_is_no_string(self):
        for row in (None, True, 0, 7, [], ["clear"], ("clear",), {}, b"clear", Form("x")):
            self.check_no_row(self.desk(), row)

    def test_other_words(self):
        for row in ("", " ", "x", "Clear", "CLEAR", "forms", "nodes", "nexts", "quiet yes", "pause", "glue", "say", "end-",
                    "form:", "clear\n", "clear\t", "-", "0", "undo:", "many", "redo"):
            self.check_no_row(self.desk(), row)

    def test_too_few_words(self):
        for row in ("form", "form a", "form a ", "form ", "node", "node ", "next", "next ", "next 0", "next 0 ", "first",
                    "first ", "last", "begin", "begin ", "end", "most", "most ", "tags", "tags ", "alone", "alone ", "line",
                    "line "):
            self.check_no_row(self.desk(), row)

    def test_too_many_words(self):
        for row in ("node item item", "node item ", "next 0 1 1", "next 0 1 ", "first 0 1", "first 0 ", "last 0 x", "last 0 ",
                    "clear x", "clear ", "begin title item", "begin title ", "end title title", "end item ", "unmark x",
                    "unmark ", "most 1 2", "most - ", "tags 1 2", "tags 1 ", "alone yes no", "alone yes ", "undo 1", "undo ",
                    "close x", "close ", "open x", "open ", "verdict none", "verdict ", "ahead 1", "ahead ", "writers 2",
                    "writers ", "table x", "table ", "names x", "names "):
            self.check_no_row(self.desk(), row)

    def test_empty_words(self):
        for row in (" clear", "  clear", "node  item", "next  0 1", "next 0  1", "first  0", "last  0", "begin  title",
                    "end  item", "most  1", "tags  1", "alone  yes", "form  a x", "form   x"):
            self.check_no_row(self.desk(), row)

    def test_numbers_that_are_not_written_so(self):
        for number in ("00", "01", "09", "100", "000", "+1", "-1", "1.", "1.0", "x", "0x", "1x", "--", "\u0661", "\u00b2", "1\n",
                       "one", "None", "1_", " 1"):
            for row in (f"first {number}", f"last {number}", f"next {number} 0", f"next 0 {number}", f"most {number}",
                        f"tags {number}"):
                self.check_no_row(self.desk(), row)
        for row in ("first -", "last -", "next - 0", "next 0 -"):
            self.check_no_row(self.desk(), row)
        for word in ("y", "Yes", "true", "True", "1", "-", "none"):
            self.check_no_row(self.desk(), f"alone {word}")

    def test_node_numbers_that_are_no_node(self):
        for row in ("first 2", "last 2", "next 2 0", "next 0 2", "next 9 9", "first 99", "last 10", "next 10 11"):
            self.check_no_row(self.desk(), row)

    def test_names_that_are_none(self):
        for name in ("A", "aB", "a1", "abcdefghi", "a-", ".", "1", "\u00e9", "a\n", "a\t", "(", "<any>", "-", "_"):
            self.check_error(self.desk(), f"form {name} x", NoName, name)
            for word in ("node", "begin", "end"):
                self.check_error(self.desk(), f"{word} {name}", NoName, name)

    def test_names_that_stand_for_nothing(self):
        for name in ("x", "titl", "titles", "form", "node", "abcdefgh", "abcdefghi", "Title"):
            for word in ("node", "begin", "end"):
                self.check_error(self.desk(), f"{word} {name}", NoName, name)

    def test_texts_of_no_pattern(self):
        for text in ("(", "(a &b)", "<digit>", "abcde", "<any><any>", "(a | b) ", "a\n", "\u00e9", "(((a | b) | c) | d)"):
            error = self.check_error(self.desk(), f"form a {text}", NoText, text)
            self.assertEqual(isinstance(error.__cause__, NoForm), text in ("abcde", "<any><any>"))

    def test_patterns_that_no_line_fits(self):
        desk = desk_with("form a (a & b)", "node a", "first 0", "last 0")
        for row in ASKING:
            error = self.check_error(desk, row, NoGrammar, "line")
            self.assertEqual(error.at, 0)

    def test_the_shape_comes_first(self):
        full = self.desk()
        for _ in range(6):
            full.say("node item")
        for row in ("node x x", "form A ", "form A", "begin  x", "node x ", "next 9 09", "next 09 9", "end x x"):
            self.check_no_row(full, row)
        self.check_no_row(self.desk(), "first 100")
        self.check_no_row(self.desk(), "most 100")

    def test_names_come_before_texts_and_limits(self):
        desk = self.desk()
        self.check_error(desk, "form A (", NoName, "A")
        for _ in range(6):
            desk.say("node item")
        self.check_error(desk, "node x", NoName, "x")
        self.check_no_row(desk, "node item")
        for mark in range(5):
            desk.say("end item")
        self.check_error(desk, "begin x", NoName, "x")
        self.check_error(desk, "begin item", NoRule, "marks")

    def test_the_thirteenth_name(self):
        desk = self.desk()
        for at in range(10):
            desk.say("form " + "abcdefghij"[at] + " x")
        self.assertEqual(len(desk.say("names")), 12)
        self.check_no_row(desk, "form k x")
        self.check_error(desk, "form k (", NoText, "(")
        self.check_error(desk, "form K x", NoName, "K")
        self.assertEqual(desk.say("form a y"), [])
        self.check_error(desk, "form a (", NoText, "(")
        self.assertEqual([desk.say("undo"), desk.say("undo")], [[], []])
        self.assertEqual(desk.say("form k x"), [])
        self.check_no_row(desk, "form j x")

    def test_no_name_is_a_key_error(self):
        with self.assertRaises(KeyError) as caught:
            Desk().say("node a")
        self.assertEqual(caught.exception.name, "a")


class TrialTest(DeskCase):
    def test_behind_a_trial(self):
        for rows in (["clear"], ["form a x", "form title y"], ["undo"], ["undo"] * 5, ["unmark", "most 2", "tags 0", "alone no"],
                     ["line T5", "line -"], ["close"], ["node item", "next 2 2", "undo", "line x"], ["begin item", "undo", "undo"],
                     [], ["open", "names", "table"]):
            desk = desk_with(*TITLED, "begin title", "line T1", "line -")
            before = seen(desk)
            with Trial(desk):
                for row in rows:
                    desk.say(row)
            self.assertEqual(seen(desk), before)
            self.assertEqual(desk.say("open"), ["T1 / -"])
            self.assertEqual(desk.say("line T2"), ["T1 / -"])
            self.assertEqual(desk.say("undo"), [])
            self.assertEqual(seen(desk), seen(desk_with(*TITLED)))

    def test_an_error_inside(self):
        desk = desk_with(*TITLED, "begin title", "line T1", "line -")
        before = seen(desk)
        for row, kind in (("node x", NoName), ("x", NoRow), ("most 0", NoRule), ("form a (", NoText)):
            with self.assertRaises(kind):
                with Trial(desk):
                    desk.say("line T2")
                    desk.say("clear")
                    desk.say("undo")
                    desk.say("undo")
                    desk.say(row)
            self.assertEqual(seen(desk), before)
        for kind in (ValueError, ZeroDivisionError, KeyboardInterrupt):
            with self.assertRaises(kind):
                with Trial(desk):
                    desk.say("unmark")
                    raise kind("x")
            self.assertEqual(seen(desk), before)

    def test_inside_a_trial_the_desk_goes_on(self):
        desk = desk_with("form title T<digits>", "begin title", "line T1", "line -")
        with Trial(desk):
            self.assertEqual(desk.say("open"), ["T1 / -"])
            self.assertEqual(desk.say("line x"), [])
            self.assertEqual(desk.say("line T2"), ["T1 / - / x"])
            self.assertEqual(desk.say("undo"), [])
            self.assertEqual(desk.say("undo"), [])
            self.check_error(desk, "undo", NoChange, 0)
        self.assertEqual(desk.say("open"), ["T1 / -"])
        self.assertEqual(desk.say("close"), ["T1 / -"])

    def test_one_trial_behind_the_other_and_inside_another(self):
        desk = desk_with("form a x", "line x")
        trial = Trial(desk)
        for rows in (["line y"], ["clear", "line z"]):
            with trial:
                for row in rows:
                    desk.say(row)
            self.assertEqual(desk.say("open"), ["x"])
        desk.say("line y")
        with trial:
            desk.say("line z")
            self.assertEqual(desk.say("open"), ["x / y / z"])
            with Trial(desk):
                desk.say("line a")
                desk.say("form b y")
            self.assertEqual(desk.say("open"), ["x / y / z"])
            self.assertEqual(desk.say("names"), ["a"])
        self.assertEqual(desk.say("open"), ["x / y"])

    def test_tried(self):
        desk = desk_with("form title T<digits>", "line T1")
        self.assertEqual(desk.tried(["names", "line x", "open", "close", "open"]), [["title"], [], ["T1 / x"], ["T1 / x"], []])
        self.assertEqual(desk.tried(["begin title", "line T1", "line T2", "undo", "undo", "names"]),
                         [[], [], ["T1"], [], [], []])
        self.assertEqual(desk.tried([]), [])
        self.assertEqual(desk.say("open"), ["T1"])
        self.assertEqual(desk.say("names"), ["title"])
        self.assertEqual(desk.tried(("names",)), [["title"]])

    def test_tried_with_an_error(self):
        desk = desk_with(*TITLED, "begin title", "line T1")
        before = seen(desk)
        for row, kind in (("node x", NoName), (None, NoRow), ("undo x", NoRow), ("end title ", NoRow), ("tags 10", NoRule)):
            with self.assertRaises(kind):
                desk.tried(["clear", "line x", "undo", "undo", "form title y", row, "unmark"])
            self.assertEqual(seen(desk), before)
        with self.assertRaises(NoChange) as caught:
            desk.tried(["undo"] * 11)
        self.assertEqual(caught.exception.at, 0)
        self.assertEqual(seen(desk), before)
        rows = ["line x"]
        desk.tried(rows).append("x")
        self.assertEqual(rows, ["line x"])


if __name__ == "__main__":
    unittest.main()
