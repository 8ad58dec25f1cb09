"""The table of a grammar: what its nodes are, and what faces their lines have for a rule."""

from gluedlines.faces import faces_of_nodes

FACE_SIGNS = (((False, False), "-"), ((False, True), "e"), ((True, False), "b"), ((True, True), "x"))


def table(grammar, rule):
    """One string for each node of the grammar."""
    rows = []
    for k, told in enumerate(faces_of_nodes(grammar, rule)):
        found = [face for face, _ in told]
        first = "F" if k in grammar.firsts() else "."
        last = "L" if k in grammar.lasts() else "."
        signs = "".join([sign if face in found else "." for face, sign in FACE_SIGNS])
        rows.append(f"{k:>2} {first}{last} {signs} {len(grammar.nexts(k)):>2} {str(grammar[k])}")
    return rows
