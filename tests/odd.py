"""Things that are passed where the document says "any objects"."""


class Yes:
    """Says that it is equal to everything."""

    def __eq__(self, other):
        return True

    def __hash__(self):
        return hash("a")


class Raises:
    """Can be neither compared, hashed, measured nor shown."""

    def __eq__(self, other):
        raise RuntimeError("compared")

    def __hash__(self):
        raise RuntimeError("hashed")

    def __bool__(self):
        raise RuntimeError("asked")

    def __len__(self):
        raise RuntimeError("measured")

    def __iter__(self):
        raise RuntimeError("gone through")

    def __repr__(self):
        raise RuntimeError("shown")


class Text(str):
    """A text that is equal to nothing, and no key."""

    __hash__ = None

    def __eq__(self, other):
        return False


def own_list():
    """A list that holds itself."""
    things = []
    things.append(things)
    return things


def no_texts():
    """New things none of which is a text, a list, a tuple or None."""
    return [
        0, 1, -1, 10 ** 40, 1.5, float("nan"), 2j, True, False, Yes(), Raises(), object(), b"a",
        bytearray(b"a"), {}, {"a": 1}, set(), {"a"}, frozenset("a"), range(2), iter("ab"),
        (letter for letter in "ab"), len, str, Yes, NotImplemented, ...,
    ]


def no_names():
    """New things none of which is a name."""
    texts = [
        "", " ", "abcdefghi", "A", "aB", "a1", "a b", "a_b", "a.", "a\n", " a", "1", "\u00e9", "\u0430",
        "\ud800", "\x00", "a" * 100000, "item", "same", "if", "else", "do", "leave",
    ]
    return texts + no_texts() + no_texts_but_lists()


def no_texts_but_lists():
    return [None, [], ["a"], (), ("a",), own_list(), (own_list(),)]
