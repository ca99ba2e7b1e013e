"""Worlds: tables of all functions and tests over things."""

from unknowncalls.errors import BadWorld, NoName, NoThings
from unknowncalls.words import as_below, as_integer, as_list, as_pairs, as_text


class World:
    """A world of as many things as its size tells, numbered from 0.

    What a table holds is only what is not so anyway: worlds with the same tables are equal.
    """

    def __init__(self, names, size, constants, functions=None, tests=None):
        total = as_integer(size)
        if total is None or total < 1:
            raise BadWorld("size")
        self.names = names
        self.size = total
        self._rules = names.rules()
        self._functions = names.functions()
        self._tests = names.tests()
        self._constants = self._read_constants(constants)
        told = self._read_functions({} if functions is None else functions)
        self._places = {}
        self._said = self._read_tests({} if tests is None else tests)
        if not all([self._keeps_rule(name, told[name]) for name in told]):
            raise BadWorld("rules")
        self._given = {name: self._unlike_others(name, told[name]) for name in told}
        self._given = {name: table for name, table in self._given.items() if table}
        if not self._has_facts():
            raise BadWorld("facts")

    def constant(self, name):
        """The thing that a constant is."""
        word = as_text(name)
        if word not in self._constants:
            raise NoName(name)
        return self._constants[word]

    def gives(self, function, things):
        """What a function gives of a list of things."""
        word = as_text(function)
        if word not in self._functions:
            raise NoName(function)
        values = self._as_things(things, self._functions[word])
        if values is None:
            raise NoThings(things)
        return self._given.get(word, {}).get(values, self._other(word, values))

    def says(self, test, things):
        """What a test says of a list of things."""
        word = as_text(test)
        if word not in self._tests:
            raise NoName(test)
        values = self._as_things(things, self._tests[word])
        if values is None:
            raise NoThings(things)
        if self._rules.get(word) == "order":
            line = self._places.get(word, {})
            return line.get(values[0], values[0]) < line.get(values[1], values[1])
        return values in self._said.get(word, {})

    def __eq__(self, other):
        return (
            isinstance(other, World)
            and self.names == other.names
            and self.size == other.size
            and self._constants == other._constants
            and self._given == other._given
            and self._said == other._said
            and self._places == other._places
        )

    def _as_things(self, thing, many):
        """The thing as a tuple of so many things of the world, None if it is none."""
        things = as_list(thing)
        if things is None or len(things) != many:
            return None
        values = tuple([as_below(part, self.size) for part in things])
        return None if None in values else values

    def _other(self, function, values):
        """What a function gives where nothing is told."""
        return values[0] if self._rules.get(function) == "settles" else 0

    def _read_constants(self, thing):
        rows = as_pairs(thing)
        if rows is None:
            raise BadWorld("constants")
        found = {as_text(name): as_below(worth, self.size) for name, worth in rows}
        has_each = len(rows) == len(self.names.constants) and all([name in found for name in self.names.constants])
        if not has_each or None in list(found.values()):
            raise BadWorld("constants")
        return found

    def _read_functions(self, thing):
        rows = as_pairs(thing)
        if rows is None:
            raise BadWorld("functions")
        found = {}
        for name, told in rows:
            many, pairs = self._functions.get(as_text(name)), as_pairs(told)
            if many is None or pairs is None:
                raise BadWorld("functions")
            table = {self._as_things(values, many): as_below(worth, self.size) for values, worth in pairs}
            if None in table or None in list(table.values()):
                raise BadWorld("functions")
            found[as_text(name)] = table
        return found

    def _read_tests(self, thing):
        rows = as_pairs(thing)
        if rows is None:
            raise BadWorld("tests")
        found = {}
        for name, told in rows:
            word, things = as_text(name), as_list(told)
            if word not in self._tests or things is None:
                raise BadWorld("tests")
            if self._rules.get(word) == "order":
                self._read_order(word, things)
                continue
            table = {self._as_things(values, self._tests[word]): True for values in things}
            if None in table:
                raise BadWorld("tests")
            if self._rules.get(word) == "both":
                table.update({values[::-1]: True for values in list(table)})
            if table:
                found[word] = table
        return found

    def _read_order(self, name, things):
        line = [as_below(thing, self.size) for thing in things]
        if len(line) != self.size or None in line or sorted(line) != list(range(self.size)):
            raise BadWorld("tests")
        if line != sorted(line):
            self._places[name] = {value: place for place, value in enumerate(line)}

    def _keeps_rule(self, name, table):
        rule = self._rules.get(name)
        if rule == "swaps":
            return all([table.get(values[::-1], table[values]) == table[values] for values in table])
        if rule == "settles":
            return all([table.get((worth,), worth) == worth for worth in list(table.values())])
        return True

    def _unlike_others(self, name, table):
        """What is told of a function, also exchanged, where it is not so anyway."""
        told = {values: table[values] for values in table}
        if self._rules.get(name) == "swaps":
            told.update({values[::-1]: table[values] for values in table})
        return {values: told[values] for values in told if told[values] != self._other(name, values)}

    def _has_facts(self):
        for name, given, worth in self.names.facts():
            values = [self._constants[constant] for constant in given]
            is_call = name in self._functions
            if is_call and self.gives(name, values) != self._constants[worth]:
                return False
            if not is_call and self.says(name, values) != worth:
                return False
        return all([self._constants[one] != self._constants[other] for one, other in self.names.apart()])
