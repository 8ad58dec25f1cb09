"""States of lists of forms: what the signs of a line make of the positions of each form."""

from gluedlines.cells import cells_of, is_done, moved, started
from gluedlines.signs import DIGIT_SIGNS, LETTER_SIGNS, SIGNS


def begin(forms):
    """The state of these forms at the start of a line."""
    return tuple([started(cells_of(form.parts())) for form in forms])


def step(forms, state, sign):
    """The state to which a sign leads from this state."""
    return tuple([moved(cells_of(form.parts()), positions, sign) for form, positions in zip(forms, state)])


def truths(forms, state):
    """For each form whether a line that led to this state fits it."""
    return [is_done(cells_of(form.parts()), positions) for form, positions in zip(forms, state)]


def signs_for(forms):
    """The signs that suffice for these forms: each other sign moves all their states as one of these does."""
    fixed = [cell for form in forms for cell in cells_of(form.parts()) if len(cell) == 1]
    rest = [sign for sign in SIGNS if sign not in fixed]
    digits = [sign for sign in rest if sign in DIGIT_SIGNS]
    letters = [sign for sign in rest if sign in LETTER_SIGNS]
    others = [sign for sign in rest if sign not in DIGIT_SIGNS and sign not in LETTER_SIGNS]
    return sorted(set(fixed + digits[:1] + letters[:1] + others[:1]))


def numbered(form, signs):
    """The states of one form that these signs lead to, by numbers, the start being 0.

    Returns a list of the sets of positions, and a list of rows: row n has the
    number of the state to which each of the signs leads from state n.
    """
    cells = cells_of(form.parts())
    states = [started(cells)]
    numbers = {states[0]: 0}
    rows = []
    while len(rows) < len(states):
        row = []
        for sign in signs:
            after = moved(cells, states[len(rows)], sign)
            if after not in numbers:
                numbers[after] = len(states)
                states.append(after)
            row.append(numbers[after])
        rows.append(row)
    return states, rows
