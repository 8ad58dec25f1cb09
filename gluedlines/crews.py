"""Crews: several writers whose lines may come between one another in one output."""

from gluedlines.errors import NoCrew, NoRows
from gluedlines.outputs import followed, is_output, may_end

MOST_WRITERS = 3


class Crew:
    """One to three writers, each with a grammar."""

    def __init__(self, *grammars, at_once=False):
        if len(grammars) == 0:
            raise NoCrew(0)
        if len(grammars) > MOST_WRITERS:
            raise NoCrew(MOST_WRITERS)
        self._grammars = list(grammars)
        self._at_once = at_once

    @property
    def at_once(self):
        return self._at_once

    def __len__(self):
        return len(self._grammars)

    def __getitem__(self, at):
        return self._grammars[at]

    def __setitem__(self, at, worth):
        self._grammars[at] = worth

    def __iter__(self):
        raise TypeError("a crew is not iterated over")

    def __add__(self, other):
        return Crew(*self._grammars, other, at_once=self._at_once)

    def __radd__(self, other):
        return Crew(other, *self._grammars, at_once=self._at_once)


def woven(parts, order):
    """The rows in which each entry of the order takes the next line of its writer."""
    rows = []
    taken = [0 for _ in parts]
    for at, writer in enumerate(order):
        if not 0 <= writer < len(parts) or taken[writer] == len(parts[writer]):
            raise NoRows(at)
        rows.append((writer, parts[writer][taken[writer]]))
        taken[writer] += 1
    if len(rows) < sum([len(lines) for lines in parts]):
        raise NoRows(len(order))
    return rows


def is_crew_output(crew, rows):
    """Whether the list of rows is an output of the crew."""
    if not all([0 <= writer < len(crew) for writer, _ in rows]):
        return False
    if crew.at_once:
        return _is_output_at_once(crew, rows)
    parts = [[line for writer, line in rows if writer == k] for k in range(len(crew))]
    return all([is_output(crew[k], lines) for k, lines in enumerate(parts)])


def _is_output_at_once(crew, rows):
    """Whether the rows can be split into records of one writer each."""
    nodes = []
    ended = True
    before = None
    for writer, line in rows:
        # Behind a row of another writer a line only can begin a record.
        nodes = followed(crew[writer], nodes if writer == before else [], ended, line)
        ended = may_end(crew[writer], nodes)
        before = writer
    return ended
