"""Patterns of lines: forms, and what is made of them by & and |."""

from gluedlines.cells import ANY_SIGNS, OPEN_PARTS, cells_of, is_done, moved, started
from gluedlines.errors import NoForm
from gluedlines.signs import is_line

MOST_PARTS = 4
MOST_SIGNS = 4
MOST_FORMS = 3


class Pattern:
    """What a line may fit: a Form, a Both or an Either."""


class Form(Pattern):
    """A pattern of one to four parts, one behind the other."""

    DIGITS = "<digits>"
    WORD = "<word>"
    ANY = "<any>"

    def __init__(self, *parts):
        if len(parts) == 0:
            raise NoForm(None)
        for at in range(len(parts)):
            if not _is_allowed(parts, at):
                raise NoForm(at)
        self._parts = parts
        self._cells = cells_of(parts)

    def parts(self):
        return self._parts

    def forms(self):
        return [self]

    def holds(self, truths):
        return truths[0]

    def __contains__(self, line):
        if not is_line(line):
            return False
        positions = started(self._cells)
        for sign in line:
            positions = moved(self._cells, positions, sign)
            if len(positions) == 0:
                return False
        return is_done(self._cells, positions)

    def __and__(self, other):
        return Both(self, other)

    def __or__(self, other):
        return Either(self, other)

    def __eq__(self, other):
        return isinstance(other, Pattern) and str(self) == str(other)

    def __str__(self):
        return "".join(self._parts)


class Both(Pattern):
    """The pattern of the lines that fit both of two patterns."""

    def __init__(self, one, other):
        _check_room(one, other)
        self._one = one
        self._other = other

    def forms(self):
        return self._one.forms() + self._other.forms()

    def holds(self, truths):
        many = len(self._one.forms())
        return self._one.holds(truths[:many]) and self._other.holds(truths[many:])

    def __contains__(self, line):
        return line in self._one and line in self._other

    def __and__(self, other):
        return Both(self, other)

    def __or__(self, other):
        return Either(self, other)

    def __eq__(self, other):
        return isinstance(other, Pattern) and str(self) == str(other)

    def __str__(self):
        return f"({self._one} & {self._other})"


class Either(Pattern):
    """The pattern of the lines that fit one of two patterns, or both."""

    def __init__(self, one, other):
        _check_room(one, other)
        self._one = one
        self._other = other

    def forms(self):
        return self._one.forms() + self._other.forms()

    def holds(self, truths):
        many = len(self._one.forms())
        return self._one.holds(truths[:many]) or self._other.holds(truths[many:])

    def __contains__(self, line):
        return line in self._one or line in self._other

    def __and__(self, other):
        return Both(self, other)

    def __or__(self, other):
        return Either(self, other)

    def __eq__(self, other):
        return isinstance(other, Pattern) and str(self) == str(other)

    def __str__(self):
        return f"({self._one} | {self._other})"


def _is_allowed(parts, at):
    """Whether the part at this index may stand there, if all parts before it may."""
    part = parts[at]
    if at >= MOST_PARTS or not isinstance(part, str):
        return False
    if part == ANY_SIGNS:
        return part not in parts[:at]
    if part in OPEN_PARTS:
        return True
    if at > 0 and parts[at - 1] not in OPEN_PARTS:
        return False
    return is_line(part) and len(part) <= MOST_SIGNS


def _check_room(one, other):
    """Raise NoForm if a pattern of these two would have too many forms."""
    if len(one.forms()) + len(other.forms()) > MOST_FORMS:
        raise NoForm(MOST_FORMS)
