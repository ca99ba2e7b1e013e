"""The statements of a loop, read from whatever is passed into tuples within tuples.

What is put is told as a dict with the registers as its keys. It is None where no way
comes, behind a leave on every way: there each register counts as put.
"""

from unknowncalls.errors import BadStatement
from unknowncalls.words import as_list, as_name, as_text


def placed(place, statements):
    """The pairs of a place and a statement, also of those within ifs, in the order of reading."""
    found = []
    for index, statement in enumerate(statements):
        at = place + (index,)
        found.append((at, statement))
        if statement[0] == "if":
            found.extend(placed(at + ("then",), statement[2]))
            found.extend(placed(at + ("else",), statement[3]))
    return found


class Reader:
    """Reads the sections of a loop with these names; put_at tells what is put ahead of the statement at each place."""

    def __init__(self, names):
        self._constants = names.constants
        self._numbers = {"call": names.functions(), "ask": names.tests(), "do": names.deeds()}
        self._taken = [*names.constants, *names.functions(), *names.tests(), *names.deeds()]
        self.put_at = {}

    def read_section(self, word, thing, put):
        """The tuple of the statements, and what is put behind them."""
        things = as_list(thing)
        if things is None:
            raise BadStatement((word,))
        return self._read_list((word,), things, put)

    def _read_list(self, place, things, put):
        statements = []
        for index, thing in enumerate(things):
            is_last = index == len(things) - 1
            self.put_at[place + (index,)] = put
            statement, put = self._read(place + (index,), thing, put, is_last)
            statements.append(statement)
        return tuple(statements), put

    def _read(self, at, thing, put, is_last):
        parts = as_list(thing)
        word = as_text(parts[0]) if parts else None
        if word == "if":
            return self._read_if(at, parts, put)
        if word == "leave" and len(parts) == 1 and at[0] == "turn" and is_last:
            return ("leave",), None
        step = self._as_step(word, parts, put, at[0]) if word in ("put", "call", "do") else None
        if step is None:
            raise BadStatement(at)
        return step, _put_also(put, step[1])

    def _read_if(self, at, parts, put):
        test = self._as_test(parts[1], put, at[0]) if len(parts) == 4 else None
        branches = [as_list(part) for part in parts[2:]]
        if test is None or None in branches:
            raise BadStatement(at)
        then, put_by_then = self._read_list(at + ("then",), branches[0], put)
        other, put_by_else = self._read_list(at + ("else",), branches[1], put)
        return ("if", test, then, other), _put_by_both(put_by_then, put_by_else)

    def _as_step(self, word, parts, put, section):
        """A put, a call or a do as a tuple, None if it is none."""
        if len(parts) < 3:
            return None
        target = self._as_free(parts[1])
        if target is None and not (word == "do" and parts[1] is None):
            return None
        if word == "put":
            head, given, many = (word, target), parts[2:], 1
        else:
            name = as_text(parts[2])
            head, given, many = (word, target, name), parts[3:], self._numbers[word].get(name)
        return self._with_sources(head, given, many, put, section)

    def _as_test(self, thing, put, section):
        """The test of an if as a tuple, None if it is none."""
        parts = as_list(thing)
        word = as_text(parts[0]) if parts else None
        if word == "same":
            return self._with_sources((word,), parts[1:], 2, put, section)
        if word != "ask" or len(parts) < 2:
            return None
        name = as_text(parts[1])
        return self._with_sources((word, name), parts[2:], self._numbers[word].get(name), put, section)

    def _with_sources(self, head, given, many, put, section):
        """The head with its sources behind it, None if these are not as many sources."""
        sources = tuple([self._as_source(thing, put, section) for thing in given])
        return None if len(sources) != many or None in sources else head + sources

    def _as_source(self, thing, put, section):
        name = as_text(thing)
        if name in self._constants or (name == "item" and section == "turn"):
            return name
        if put is None:
            return self._as_free(thing)
        return name if name in put else None

    def _as_free(self, thing):
        """The thing as a name that a register can have, None if it is none."""
        name = as_name(thing)
        return None if name in self._taken else name


def _put_also(put, target):
    return put if put is None or target is None else {**put, target: True}


def _put_by_both(put, other):
    """What is put behind an if; a branch that leaves does not come there."""
    if put is None or other is None:
        return other if put is None else put
    return {name: True for name in put if name in other}
