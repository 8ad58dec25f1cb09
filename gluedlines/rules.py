"""Rules: which lines begin a record, which end one, and what else ends one."""

from gluedlines.errors import NoRule
from gluedlines.patterns import Form

MOST_MARKS = 6
MOST_LINES = 20
MOST_TAGS = 9
FIELDS = ("most", "alone", "tags", "quiet")


class Rule:
    """Two lists of marks and four settings."""

    def __init__(self, begins, ends, *, most=None, alone=True, tags=None, quiet=False):
        if len(begins) + len(ends) > MOST_MARKS:
            raise NoRule("marks")
        _check("most", most)
        _check("alone", alone)
        _check("tags", tags)
        _check("quiet", quiet)
        self._begins = list(begins)
        self._ends = list(ends)
        self._most = most
        self._alone = alone
        self._tags = tags
        self._quiet = quiet

    @staticmethod
    def by_first(*patterns):
        return Rule(list(patterns), [])

    @staticmethod
    def by_last(*patterns):
        return Rule([], list(patterns))

    @staticmethod
    def every_line():
        return Rule([Form(Form.ANY)], [])

    @property
    def most(self):
        return self._most

    @most.setter
    def most(self, value):
        _check("most", value)
        self._most = value

    @property
    def alone(self):
        return self._alone

    @alone.setter
    def alone(self, value):
        _check("alone", value)
        self._alone = value

    @property
    def tags(self):
        return self._tags

    @tags.setter
    def tags(self, value):
        _check("tags", value)
        self._tags = value

    @property
    def quiet(self):
        return self._quiet

    @quiet.setter
    def quiet(self, value):
        _check("quiet", value)
        self._quiet = value

    def change(self, **settings):
        for name in settings:
            if name not in FIELDS:
                raise NoRule("name")
        for field in FIELDS:
            if field in settings:
                _check(field, settings[field])
        self._most = settings.get("most", self._most)
        self._alone = settings.get("alone", self._alone)
        self._tags = settings.get("tags", self._tags)
        self._quiet = settings.get("quiet", self._quiet)

    def begins(self):
        return list(self._begins)

    def ends(self):
        return list(self._ends)

    def begins_on(self, line):
        return any([line in mark for mark in self._begins])

    def ends_on(self, line):
        return any([line in mark for mark in self._ends])

    def is_part_of(self, other):
        return (all([mark in other.begins() for mark in self._begins])
                and all([mark in other.ends() for mark in self._ends])
                and self._most == other.most and self._alone == other.alone
                and self._tags == other.tags and self._quiet == other.quiet)

    def __eq__(self, other):
        return isinstance(other, Rule) and self.is_part_of(other) and other.is_part_of(self)


def assign(rule, field, value):
    """Assign the setting of this name."""
    if field == "most":
        rule.most = value
    elif field == "alone":
        rule.alone = value
    elif field == "tags":
        rule.tags = value
    elif field == "quiet":
        rule.quiet = value
    else:
        raise NoRule("name")


def with_marks(rule, begins, ends):
    """A new rule with these marks and the settings of this one."""
    return Rule(begins, ends, most=rule.most, alone=rule.alone, tags=rule.tags, quiet=rule.quiet)


def _check(field, value):
    """Raise NoRule if the setting of this name cannot have the value."""
    if field == "most":
        allowed = value is None or _is_number(value, 1, MOST_LINES)
    elif field == "tags":
        allowed = value is None or _is_number(value, 0, MOST_TAGS)
    else:
        allowed = value is True or value is False
    if not allowed:
        raise NoRule(field)


def _is_number(value, low, high):
    # True and False are integers to Python.
    return isinstance(value, int) and not isinstance(value, bool) and low <= value <= high
