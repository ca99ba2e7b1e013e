"""Names for new registers."""

from unknowncalls.words import LETTERS, as_name


def free_names(letter, names, taken, many):
    """The first names of two letters, from this one and an a on, that are no names and not taken."""
    used = [*names.constants, *names.functions(), *names.tests(), *names.deeds(), *taken]
    firsts = LETTERS[LETTERS.index(letter):]
    pairs = [first + second for first in firsts for second in LETTERS]
    return [pair for pair in pairs if as_name(pair) is not None and pair not in used][:many]
