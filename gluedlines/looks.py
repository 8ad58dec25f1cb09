"""Least lines of patterns, and the looks that the lines of a pattern have for marks."""

from gluedlines.scans import numbered, signs_for, truths


def least_line(pattern):
    """The least line that fits the pattern, or None."""
    return _least([pattern])


def shared_line(one, other):
    """The least line that fits both patterns, or None."""
    return _least([one, other])


def looks(pattern, marks):
    """Each look of a line that fits the pattern, with the least such line: sorted tuples (look, line)."""
    least = {}
    for told, line in _fitting([pattern], marks, False):
        look = tuple([k for k, fits in enumerate(told) if fits])
        if look not in least:
            least[look] = line
    return [(look, least[look]) for look in sorted(least)]


def _least(goals):
    """The least line that fits all these patterns, or None."""
    found = _fitting(goals, [], True)
    return found[0][1] if len(found) > 0 else None


def _fitting(goals, marks, only_first):
    """The least line to each state in which all goals hold, or only the least of these.

    Returns tuples (told, line) in the order of the lines; told is a list that
    tells which marks the line fits.
    """
    forms = [form for pattern in [*goals, *marks] for form in pattern.forms()]
    signs = signs_for(forms)
    tables = [numbered(form, signs) for form in forms]
    fitting = [[truths([form], (positions,))[0] for positions in states]
               for form, (states, _) in zip(forms, tables)]
    living = [[len(positions) > 0 for positions in states] for states, _ in tables]
    seen = {}
    found = []
    # The start is not marked as seen: the empty string is no line, but a line may lead to the start again.
    queue = [(tuple([0] * len(forms)), "")]
    at = 0
    while at < len(queue) and not (only_first and len(found) > 0):
        numbers, line = queue[at]
        chosen = [rows[n] for (_, rows), n in zip(tables, numbers)]
        for after, sign in zip(zip(*chosen), signs):
            if after not in seen:
                seen[after] = True
                # Patterns know no "not": one that fails even if all its living forms were true fails for ever.
                if all(held(goals, _picked(living, after))):
                    queue.append((after, line + sign))
                    told = held([*goals, *marks], _picked(fitting, after))
                    if all(told[:len(goals)]):
                        found.append((told[len(goals):], line + sign))
        at += 1
    return found


def _picked(tables, numbers):
    return [table[n] for table, n in zip(tables, numbers)]


def held(patterns, told):
    """For each pattern whether it holds, if told tells it of the forms of all of them."""
    held = []
    at = 0
    for pattern in patterns:
        many = len(pattern.forms())
        held.append(pattern.holds(told[at:at + many]))
        at = at + many
    return held
