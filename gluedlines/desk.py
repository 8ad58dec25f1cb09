"""A desk: rows of words that set up patterns, a grammar and a rule, and rows that ask what comes of them."""

from gluedlines.changes import rule_behind
from gluedlines.crewverdicts import breaking_number
from gluedlines.errors import NoChange, NoName, NoRow
from gluedlines.gluers import Gluer
from gluedlines.grammars import MOST_NODES, Grammar
from gluedlines.patterntexts import read_pattern
from gluedlines.readings import ahead_needed
from gluedlines.rules import Rule, with_marks
from gluedlines.signs import DIGIT_SIGNS, is_line
from gluedlines.tables import table
from gluedlines.verdicts import wrong_output

MOST_NAMES = 12
MOST_LETTERS = 8
NAME_SIGNS = "abcdefghijklmnopqrstuvwxyz"

# What stands behind the first word of each row that changes the setup: a new name, a name, a node, a number or "-",
# "yes" or "no", or a text up to the end of the row.
SETTING_ROWS = {
    "form": ("new", "text"),
    "node": ("name",),
    "next": ("node", "node"),
    "first": ("node",),
    "last": ("node",),
    "clear": (),
    "begin": ("name",),
    "end": ("name",),
    "unmark": (),
    "most": ("number",),
    "tags": ("number",),
    "alone": ("choice",),
}
# The same for the other rows.
OTHER_ROWS = {
    "undo": (),
    "line": ("text",),
    "close": (),
    "open": (),
    "verdict": (),
    "ahead": (),
    "writers": (),
    "table": (),
    "names": (),
}


class Setup:
    """What the rows of a desk have set up. A change is made to a copy, so that all earlier setups stay as they are."""

    def __init__(self, names, nodes, starts, stops, rule):
        self._names = dict(names)
        self._nodes = [(pattern, list(afters)) for pattern, afters in nodes]
        self._starts = list(starts)
        self._stops = list(stops)
        # Other rules come in its place, but none is ever changed.
        self._rule = rule

    def copied(self):
        return Setup(self._names, self._nodes, self._starts, self._stops, self._rule)

    def rule(self):
        return self._rule

    def grammar(self):
        return Grammar(self._nodes, self._starts, self._stops)

    def sorted_names(self):
        return sorted(self._names)

    def check(self, row, kinds, words):
        """Raise the error of the first of these words that does not stand for what it should."""
        for kind, word in zip(kinds, words):
            if kind == "new" and not _is_name(word):
                raise NoName(word)
            if kind == "name" and word not in self._names:
                raise NoName(word)
            if kind == "node" and int(word) >= len(self._nodes):
                raise NoRow(row)

    def apply(self, row, word, words):
        """Change this setup as a row says, and return the answer."""
        if word == "form":
            self._name(row, words[0], read_pattern(words[1]))
        elif word == "node":
            return self._add_node(row, self._names[words[0]])
        elif word == "next":
            _put(int(words[1]), self._nodes[int(words[0])][1])
        elif word == "first":
            _put(int(words[0]), self._starts)
        elif word == "last":
            _put(int(words[0]), self._stops)
        elif word == "clear":
            self._nodes = []
            self._starts = []
            self._stops = []
        else:
            self._change_rule(word, words)
        return []

    def _name(self, row, name, pattern):
        if name not in self._names and len(self._names) >= MOST_NAMES:
            raise NoRow(row)
        self._names[name] = pattern

    def _add_node(self, row, pattern):
        if len(self._nodes) >= MOST_NODES:
            raise NoRow(row)
        self._nodes.append((pattern, []))
        return [str(len(self._nodes) - 1)]

    def _change_rule(self, word, words):
        if word == "unmark":
            self._rule = with_marks(self._rule, [], [])
        elif word == "begin":
            self._rule = rule_behind(self._rule, "begins", self._names[words[0]])
        elif word == "end":
            self._rule = rule_behind(self._rule, "ends", self._names[words[0]])
        elif word == "alone":
            self._rule = rule_behind(self._rule, "alone", words[0] == "yes")
        else:
            self._rule = rule_behind(self._rule, word, None if words[0] == "-" else int(words[0]))


class Desk:
    """Takes rows one by one: each of them changes the setup, feeds the gluer, or asks for something."""

    def __init__(self):
        self._setup = Setup({}, [], [], [], Rule([], []))
        # The setups before the rows that can be undone.
        self._past = []
        self._gluer = Gluer(self._setup.rule())

    def say(self, row):
        word, kinds, words = _read(row)
        self._setup.check(row, kinds, words)
        if word in SETTING_ROWS:
            return self._set(row, word, words)
        if word == "undo":
            return self._undo()
        if word == "line" and not is_line(words[0]):
            raise NoRow(row)
        if word in ("line", "close", "open"):
            return [" / ".join(lines) for _, lines in self._given(word, words)]
        if word == "names":
            return self._setup.sorted_names()
        return _verdict(word, self._setup.grammar(), self._setup.rule())

    def tried(self, rows):
        answers = []
        with Trial(self):
            for row in rows:
                answers.append(self.say(row))
        return answers

    def _set(self, row, word, words):
        setup = self._setup.copied()
        answer = setup.apply(row, word, words)
        # A new list, as a trial may have kept the old one.
        self._past = [*self._past, self._setup]
        self._begin_with(setup)
        return answer

    def _undo(self):
        if len(self._past) == 0:
            raise NoChange(0)
        setup = self._past[-1]
        self._past = self._past[:-1]
        self._begin_with(setup)
        return []

    def _begin_with(self, setup):
        self._setup = setup
        self._gluer = Gluer(setup.rule())

    def _given(self, word, words):
        """The records that the gluer gives out, or that it keeps if these are asked for."""
        gluer = self._gluer
        if word == "line":
            return gluer(words[0], 0)
        return gluer.finish() if word == "close" else gluer.waiting()


class Trial:
    """In a `with` statement: behind it the desk is as it was before."""

    def __init__(self, desk):
        self._desk = desk
        self._setup = None
        self._past = None
        self._gluer = None

    def __enter__(self):
        desk = self._desk
        self._setup = desk._setup
        self._past = desk._past
        self._gluer = desk._gluer
        # Setups and lists of them are never changed, but a gluer is.
        desk._gluer = self._gluer.copied()
        return self

    def __exit__(self, kind, value, trace):
        desk = self._desk
        desk._setup = self._setup
        desk._past = self._past
        desk._gluer = self._gluer


def _read(row):
    """The first word of a row, the kinds of its other words, and these words; or NoRow."""
    if not isinstance(row, str):
        raise NoRow(row)
    word, blank, tail = row.partition(" ")
    if word not in SETTING_ROWS and word not in OTHER_ROWS:
        raise NoRow(row)
    kinds = SETTING_ROWS[word] if word in SETTING_ROWS else OTHER_ROWS[word]
    words = []
    for kind in kinds:
        if kind == "text":
            piece = tail
            blank = ""
        else:
            piece, blank, tail = tail.partition(" ")
        if not _has_shape(kind, piece):
            raise NoRow(row)
        words.append(piece)
    # A blank that is left over has another word behind it, if only an empty one.
    if blank != "":
        raise NoRow(row)
    return word, kinds, words


def _has_shape(kind, word):
    """Whether a word of this kind is written so, whatever it stands for."""
    if kind == "node":
        return _is_number(word)
    if kind == "number":
        return word == "-" or _is_number(word)
    if kind == "choice":
        return word in ("yes", "no")
    return word != ""


def _is_number(word):
    """Whether this is a number of one or two digits without a leading zero."""
    return (0 < len(word) <= 2 and all([sign in DIGIT_SIGNS for sign in word])
            and (word == "0" or not word.startswith("0")))


def _is_name(word):
    return 0 < len(word) <= MOST_LETTERS and all([sign in NAME_SIGNS for sign in word])


def _put(k, numbers):
    """Put a number into a list, if it is not there."""
    if k not in numbers:
        numbers.append(k)


def _verdict(word, grammar, rule):
    """The answer to a row that asks for something of the grammar and the rule."""
    if word == "table":
        return table(grammar, rule)
    if word == "verdict":
        told = wrong_output(grammar, rule)
        return ["right"] if told is None else ["wrong", str(len(told[0]))]
    number = ahead_needed(grammar) if word == "ahead" else breaking_number(grammar, rule)
    return ["none" if number is None else str(number)]
