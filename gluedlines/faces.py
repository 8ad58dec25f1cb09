"""Faces: whether lines begin or end a record by a rule."""

from gluedlines.looks import looks


def faces(pattern, rule):
    """Each face of a line that fits the pattern, with the least such line: sorted tuples (face, line)."""
    begins = rule.begins()
    least = {}
    for look, line in looks(pattern, begins + rule.ends()):
        face = (any([k < len(begins) for k in look]), any([k >= len(begins) for k in look]))
        if face not in least or _is_less(line, least[face]):
            least[face] = line
    return [(face, least[face]) for face in sorted(least)]


def _is_less(line, other):
    return (len(line), line) < (len(other), other)
