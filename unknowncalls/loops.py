"""Loops: three sections of statements."""

from unknowncalls.errors import NoSection
from unknowncalls.reading import Reader, placed
from unknowncalls.words import as_text


class Loop:
    """A loop with its start, its turn and its end."""

    def __init__(self, names, start, turn, end):
        reader = Reader(names)
        first, put = reader.read_section("start", start, {})
        second, _ = reader.read_section("turn", turn, put)
        third, _ = reader.read_section("end", end, put)
        self.names = names
        self._sections = {"start": first, "turn": second, "end": third}
        self._registers = tuple(_targets(self._placed()))
        self._lasting = tuple([name for name in self._registers if name in put])
        self._put_at = reader.put_at

    def section(self, word):
        """A new list of the statements of the section with this word."""
        name = as_text(word)
        if name not in self._sections:
            raise NoSection(word)
        return list(self._sections[name])

    def registers(self):
        """A new list of all registers, in the order in which they are first put."""
        return list(self._registers)

    def lasting(self):
        """A new list of the registers that are put on every way of the start."""
        return list(self._lasting)

    def places(self):
        """A new list of the places of all statements, in the order of reading."""
        return [pair[0] for pair in self._placed()]

    def sources(self, place):
        """A new list of what can be a source ahead of a statement: registers, constants, the item in the turn."""
        put = self._put_at[place]
        registers = [name for name in self._registers if put is None or name in put]
        return [*registers, *self.names.constants, *["item" for word in place[:1] if word == "turn"]]

    def __eq__(self, other):
        return isinstance(other, Loop) and self.names == other.names and self._sections == other._sections

    def _placed(self):
        return [pair for word, statements in self._sections.items() for pair in placed((word,), statements)]


def _targets(pairs):
    """The registers that statements put, each once."""
    found = {}
    for _, statement in pairs:
        if statement[0] in ("put", "call", "do") and statement[1] is not None:
            found[statement[1]] = True
    return list(found)
