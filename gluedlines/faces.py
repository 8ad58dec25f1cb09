"""Faces: whether lines begin or end a record by a rule."""

from gluedlines.looks import looks


def faces(pattern, rule):
    """Each face of a line that fits the pattern, with the least such line: sorted tuples (face, line)."""
    least = {}
    for look, line in looks(pattern, rule.begins() + rule.ends()):
        face = face_by(rule, look)
        if face not in least or _is_less(line, least[face]):
            least[face] = line
    return [(face, least[face]) for face in sorted(least)]


def face_by(rule, look):
    """The face of a line with this look for the marks of both lists of the rule."""
    many = len(rule.begins())
    return any([k < many for k in look]), any([k >= many for k in look])


def faces_of_nodes(grammar, rule):
    """The faces of each node of a grammar."""
    return faces_of_all([grammar], rule)[0]


def faces_of_all(grammars, rule):
    """For each of these grammars the faces of each of its nodes."""
    # Many nodes may have the same pattern, and its faces may take long to find.
    found = {}
    tables = []
    for grammar in grammars:
        texts = [str(grammar[k]) for k in range(len(grammar))]
        for k, text in enumerate(texts):
            if text not in found:
                found[text] = faces(grammar[k], rule)
        tables.append([found[text] for text in texts])
    return tables


def not_begun(tables, nodes):
    """The lines of these nodes, by the faces of all nodes, that do not begin a record: tuples (node, line)."""
    return [(k, line) for k in nodes for (begins, _), line in tables[k] if not begins]


def _is_less(line, other):
    return (len(line), line) < (len(other), other)
