"""The errors of the package: each kind of failure has one, with its arguments as attributes."""


class GlueError(ValueError):
    """What every error of the package but NoName is."""


class NoForm(GlueError):
    """These parts make no form, or a pattern would have too many forms."""

    def __init__(self, at):
        self.at = at


class NoText(GlueError):
    """This is not the text of a pattern."""

    def __init__(self, text):
        self.text = text


class NoGrammar(GlueError):
    """These nodes, first nodes and last nodes make no grammar."""

    def __init__(self, part, at):
        self.part = part
        self.at = at


class NoCrew(GlueError):
    """A crew would have no writer, or too many."""

    def __init__(self, at):
        self.at = at


class NoRows(GlueError):
    """The lines cannot be woven in this order."""

    def __init__(self, at):
        self.at = at


class NoRule(GlueError):
    """A rule cannot have this value in this field."""

    def __init__(self, field):
        self.field = field


class NotRight(GlueError):
    """What is asked for needs another rule, paper or word."""

    def __init__(self, word):
        self.word = word


class NotEnough(GlueError):
    """A reader must look further ahead, or no number is enough."""

    def __init__(self, needed):
        self.needed = needed


class NoOutput(GlueError):
    """The lines are not an output, or no output begins with them."""

    def __init__(self, at):
        self.at = at


class NoChange(GlueError):
    """This change cannot be made."""

    def __init__(self, at):
        self.at = at


class NoRow(GlueError):
    """A desk does not understand this row."""

    def __init__(self, row):
        self.row = row


class NoName(KeyError):
    """This is not a name, or it stands for nothing."""

    def __init__(self, name):
        self.name = name
