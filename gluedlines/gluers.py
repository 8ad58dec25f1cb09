"""Gluers: they take lines and give out records as their rule says."""

from gluedlines.rules import with_marks

THROWN = "thrown"
BEGUN = "begun"
JOINED = "joined"


class Keeper:
    """The open records of a gluer; what is kept of a line may also be its place."""

    def __init__(self, rule):
        self._rule = with_marks(rule, rule.begins(), rule.ends())
        # By tag, in the order in which the last lines of the records came.
        self._kept = {}

    def take(self, line, tag, thing):
        """Take a line, of which this thing is kept, and return the records that are given out."""
        if self._rule.tags is None:
            tag = None
        begins = self._rule.begins_on(line)
        given = self._shut([tag]) if begins else []
        if tag not in self._kept:
            if not begins and not self._rule.alone:
                return []
            given.extend(self._shut(self._too_many()))
        things = self._kept.pop(tag, [])
        things.append(thing)
        # What is put in anew stands last.
        self._kept[tag] = things
        if self._rule.ends_on(line) or len(things) == self._rule.most:
            given.extend(self._shut([tag]))
        return given

    def pause(self):
        return self.shut_all() if self._rule.quiet else []

    def shut_all(self):
        return self._shut(list(self._kept))

    def waiting(self):
        return [(tag, list(things)) for tag, things in self._kept.items()]

    def copied(self):
        other = Keeper(self._rule)
        other._kept = {tag: list(things) for tag, things in self._kept.items()}
        return other

    def _too_many(self):
        """The tags of the records that must be given out before one more is open."""
        if self._rule.tags is None or self._rule.tags == 0 or len(self._kept) < self._rule.tags:
            return []
        return list(self._kept)[:1]

    def _shut(self, tags):
        """Give out the records of these tags, as far as they are open."""
        given = []
        for tag in tags:
            if tag in self._kept:
                given.append((tag, self._kept.pop(tag)))
        return given


class Gluer:
    """Puts records together by a copy of a rule."""

    def __init__(self, rule):
        self._rule = with_marks(rule, rule.begins(), rule.ends())
        self._keeper = Keeper(rule)
        self._many = 0

    @property
    def many(self):
        return self._many

    def __call__(self, line, tag=None):
        return self._counted(self._keeper.take(line, tag, line))

    def pause(self):
        return self._counted(self._keeper.pause())

    def finish(self):
        return self._counted(self._keeper.shut_all())

    def waiting(self):
        return self._keeper.waiting()

    def copied(self):
        """A gluer of the same rule with the same open records; what is done to one has no effect on the other."""
        other = Gluer(self._rule)
        other._keeper = self._keeper.copied()
        other._many = self._many
        return other

    def _counted(self, given):
        self._many = self._many + len(given)
        return given


def taken(rule, count, face):
    """What a gluer does with a line of this face if its open record has so many lines, 0 if none is open.

    Returns how the line is taken, and the number of lines of the record that is
    then open. If the rule has no greatest number, 1 is told for all numbers above 0.
    """
    begins, ends = face
    if count > 0 and not begins:
        how = JOINED
        many = count + 1
    elif begins or rule.alone:
        how = BEGUN
        many = 1
    else:
        return THROWN, 0
    if ends or many == rule.most:
        return how, 0
    return how, 1 if rule.most is None else many


def glue(rule, lines):
    """The lists of lines that a gluer gives out of these lines, in which None stands for a pause."""
    gluer = Gluer(rule)
    given = []
    for line in lines:
        given.extend(gluer.pause() if line is None else gluer(line, 0))
    given.extend(gluer.finish())
    return [found for _, found in given]


def glue_places(rule, rows):
    """The tags and the places of the records that a gluer gives out of these rows (writer, line)."""
    keeper = Keeper(rule)
    given = []
    for at, (writer, line) in enumerate(rows):
        given.extend(keeper.take(line, writer, at))
    given.extend(keeper.shut_all())
    return given
