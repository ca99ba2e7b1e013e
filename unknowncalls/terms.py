"""Terms within a line of a text: names, and calls with terms within brackets."""

from unknowncalls.words import LETTERS


def read_term(text):
    """The term that a whole text is; None, or one with an empty name, if it is none.

    A term is a name alone, or a pair of a name and a list of terms.
    """
    term, end = _term_at(text, 0)
    return term if end == len(text) else None


def _term_at(text, at):
    """The term that begins at a place of a text, and where it ends; None, or an empty name, if there is none."""
    end = at
    while text[end:end + 1] != "" and text[end] in LETTERS:
        end += 1
    name = text[at:end]
    if name == "" or text[end:end + 1] != "(":
        return name, end
    if text[end + 1:end + 2] == ")":
        return (name, []), end + 2
    terms, sign = [], ", "
    end -= 1
    while sign == ", ":
        term, end = _term_at(text, end + 2)
        terms.append(term)
        sign = text[end:end + 2]
    if None in terms or not sign.startswith(")"):
        return None, end
    return (name, terms), end + 1
