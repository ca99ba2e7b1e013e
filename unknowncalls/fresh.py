"""Names for new registers."""

from unknowncalls.words import LETTERS, as_name


def free_names(letter, names, taken, many):
    """The first names of two letters, from this one and an a on, that are no names and not taken."""
    rows = (names.constants, names.functions(), names.tests(), names.deeds(), taken)
    used = {name: True for row in rows for name in row}
    found = []
    for first in LETTERS[LETTERS.index(letter):]:
        # There are hundreds of such names, and few of them are wanted.
        if len(found) >= many:
            break
        pairs = [first + second for second in LETTERS]
        found.extend([pair for pair in pairs if pair not in used and as_name(pair) is not None])
    return found[:many]
