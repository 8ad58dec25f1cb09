import unittest

from gluedlines.signs import SIGNS, is_line


class SignsTest(unittest.TestCase):
    def test_the_68_signs_in_order(self):
        digits = "".join(str(k) for k in range(10))
        upper = "".join(chr(k) for k in range(ord("A"), ord("Z") + 1))
        self.assertEqual(SIGNS, " #-." + digits + ":>" + upper + upper.lower())
        self.assertEqual(len(SIGNS), 68)
        self.assertEqual(list(SIGNS), sorted(set(SIGNS)))

    def test_lines(self):
        for line in list(SIGNS) + [SIGNS, " ", "  ", "T12", "a" * 400, "->", "# x: 1.5"]:
            self.assertIs(is_line(line), True, line)

    def test_strings_that_are_no_lines(self):
        for code in list(range(300)) + [0x660, 0xFF11, 0x2028]:
            if chr(code) not in SIGNS:
                self.assertIs(is_line(chr(code)), False, code)
                self.assertIs(is_line("a" + chr(code)), False, code)
        for text in ["", "a\n", "\ta", "a_b", "caf\u00e9", "<any>", "(a", "a|b", "a&b", "a/b"]:
            self.assertIs(is_line(text), False, text)

    def test_other_values_are_no_lines(self):
        for thing in [None, True, False, 0, 1, 7, 1.5, b"a", [], ["a"], ("a",), {"a": 1}, {"a"}, object(), str, SIGNS.find]:
            self.assertIs(is_line(thing), False, thing)


if __name__ == "__main__":
    unittest.main()
