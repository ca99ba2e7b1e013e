"""What a text, a name, an integer and a list are: of each thing, whatever it is.

What is told back is Python's own text, number or list, also for things of classes
derived from these: such ones may compare as they like, or be changed later.
"""

LETTERS = "abcdefghijklmnopqrstuvwxyz"
LONGEST = 8
RESERVED = ("item", "same", "if", "else", "do", "leave")


def as_text(thing):
    """The thing as a plain text, None if it is no text."""
    return "".join([thing]) if isinstance(thing, str) else None


def as_name(thing):
    """The thing as a plain text, None if it is no name."""
    text = as_text(thing)
    if text is None or text in RESERVED or not 1 <= len(text) <= LONGEST:
        return None
    return text if all([letter in LETTERS for letter in text]) else None


def as_integer(thing):
    """The thing as a plain integer, None if it is none; a truth value is none."""
    if isinstance(thing, bool) or not isinstance(thing, int):
        return None
    return int(thing)


def as_list(thing):
    """A new list of what is in a list or a tuple, None for anything else."""
    return list(thing) if isinstance(thing, (list, tuple)) else None


def as_pairs(thing):
    """A new list of the pairs of a key and a value of a dict, None for anything else."""
    return list(thing.items()) if isinstance(thing, dict) else None


def as_below(thing, end):
    """The thing as a plain integer from 0 on and below an end, None if it is none."""
    number = as_integer(thing)
    return None if number is None or not 0 <= number < end else number
