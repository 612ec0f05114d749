"""Texts: yards as lines of words."""

from coupledyard.errors import InvalidText
from coupledyard.yards import is_yard, validate_yard

# No integer of a yard has more signs, and Python does not read integers of any length.
MOST_SIGNS = 12


def yard_text(yard):
    """Return the text of a yard."""
    validate_yard(yard)
    walls = [f"wagon {low} {high}" for low, high in yard[0]]
    couplings = [f"coupling {i} {j} {least} {greatest}" for i, j, least, greatest in yard[1]]
    return "\n".join(walls + couplings)


def parse_yard(text):
    """Return the yard of a text."""
    if not isinstance(text, str):
        raise InvalidText(0)
    yard = ((), ())
    for number, line in enumerate(text.split("\n"), start=1):
        yard = _with_line(yard, line)
        # All lines before were good, so this one is to blame.
        if not is_yard(yard):
            raise InvalidText(number)
    return yard


def _with_line(yard, line):
    """Return the yard with the item of one more line, or None if it has none there."""
    walls, couplings = yard
    word, *others = line.split(" ")
    item = tuple([_integer(other) for other in others])
    if word == "wagon" and not couplings:
        return (walls + (item,), couplings)
    if word == "coupling":
        return (walls, couplings + (item,))
    return None


def _integer(word):
    """Return the integer that a word writes, or None, which is no integer of a yard."""
    if len(word) > MOST_SIGNS or not word.removeprefix("-").isdecimal():
        return None
    value = int(word)
    # Zeros in front, and a sign before 0, are not written.
    if str(value) != word:
        return None
    return value
