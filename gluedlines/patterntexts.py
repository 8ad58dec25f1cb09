"""Patterns read from their texts."""

from gluedlines.cells import OPEN_PARTS
from gluedlines.errors import NoForm, NoText
from gluedlines.patterns import MOST_FORMS, Both, Either, Form
from gluedlines.signs import SIGNS


def read_pattern(text):
    """The pattern with this text, or NoText."""
    if not isinstance(text, str):
        raise NoText(text)
    parts = _parts_of(text)
    if parts is not None:
        return _whole_form(text, parts)
    pattern = _joined(text, MOST_FORMS - 1)
    if pattern is None:
        raise NoText(text)
    return pattern


def _whole_form(text, parts):
    """The form with these parts, or NoText raised from the reason why there is none."""
    try:
        return Form(*parts)
    except NoForm as error:
        raise NoText(text) from error


def _pattern_in(text, depth):
    """The pattern with this text, which stands inside brackets, or None."""
    parts = _parts_of(text)
    if parts is None:
        return _joined(text, depth)
    try:
        return Form(*parts)
    except NoForm:
        return None


def _joined(text, depth):
    """The pattern in brackets with this text, with at most so many brackets in one another, or None."""
    # Three forms stand at most two brackets deep, so that deeper texts need not be followed.
    if depth == 0 or not (text.startswith("(") and text.endswith(")")):
        return None
    inner = text[1:-1]
    at = _middle(inner)
    if at is None:
        return None
    one = _pattern_in(inner[:at - 1], depth - 1)
    other = _pattern_in(inner[at + 2:], depth - 1)
    if one is None or other is None:
        return None
    try:
        return Both(one, other) if inner[at] == "&" else Either(one, other)
    except NoForm:
        return None


def _middle(inner):
    """The index of the first & or | outside of brackets, with a blank on either side, or None."""
    depth = 0
    for at, sign in enumerate(inner):
        if sign == "(":
            depth += 1
        elif sign == ")":
            depth -= 1
        elif sign in "&|" and depth == 0:
            return at if at > 0 and inner[at - 1:at + 2] in (" & ", " | ") else None
    return None


def _parts_of(text):
    """The parts of a text that has the shape of a form, allowed or not, or None."""
    parts = []
    at = 0
    while at < len(text):
        part = _part_at(text, at)
        if part == "":
            return None
        parts.append(part)
        at = at + len(part)
    return parts if len(parts) > 0 else None


def _part_at(text, at):
    """The part that begins at this index, or the empty string if none does."""
    for part in OPEN_PARTS:
        if text[at:at + len(part)] == part:
            return part
    end = at
    while end < len(text) and text[end] in SIGNS:
        end += 1
    return text[at:end]
