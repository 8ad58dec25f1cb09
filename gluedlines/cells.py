"""The cells of a form, and the sets of positions through which the signs of a line move."""

from gluedlines.signs import DIGIT_SIGNS, LETTER_SIGNS

SOME_DIGITS = "<digits>"
SOME_LETTERS = "<word>"
ANY_SIGNS = "<any>"
OPEN_PARTS = ("<digits>", "<word>", "<any>")


def cells_of(parts):
    """The cells of a form with these parts: fixed texts sign by sign, other parts as one cell."""
    cells = []
    for part in parts:
        if part in OPEN_PARTS:
            cells.append(part)
        else:
            cells.extend(list(part))
    return cells


def started(cells):
    """The positions at the start of a line."""
    return _closed(cells, [0])


def moved(cells, positions, sign):
    """The positions to which a sign moves these positions."""
    found = []
    for k in positions:
        if k < len(cells) and cells[k] == ANY_SIGNS:
            found.append(k)
        elif k < len(cells) and _takes(cells[k], sign):
            found.append(k + 1)
        if k > 0 and cells[k - 1] in (SOME_DIGITS, SOME_LETTERS) and _takes(cells[k - 1], sign):
            found.append(k)
    return _closed(cells, found)


def is_done(cells, positions):
    """Whether a line that led to these positions fits the form."""
    return len(cells) in positions


def _closed(cells, positions):
    """These positions and those behind an <any> that may stand for no sign, as an ascending tuple."""
    closed = []
    for k in range(len(cells) + 1):
        if k in positions or (k - 1 in closed and cells[k - 1] == ANY_SIGNS):
            closed.append(k)
    return tuple(closed)


def _takes(cell, sign):
    """Whether a cell other than <any> takes the sign."""
    if cell == SOME_DIGITS:
        return sign in DIGIT_SIGNS
    if cell == SOME_LETTERS:
        return sign in LETTER_SIGNS
    return cell == sign
