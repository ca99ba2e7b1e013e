"""The names that loops use, and what is known of them."""

from unknowncalls.errors import BadFact, BadName, BadNumber, BadPair, BadRule, NoWorld
from unknowncalls.facts import known_facts
from unknowncalls.words import as_integer, as_list, as_name, as_text


class Names:
    """Constants, functions, tests and deeds, with the rules, facts and unlike pairs."""

    def __init__(self, constants=(), functions=None, tests=None, deeds=None, rules=None, facts=(), apart=()):
        tables = [{} if table is None else table for table in (functions, tests, deeds)]
        _check_names([*constants, *tables[0], *tables[1], *tables[2]])
        self.constants = tuple([as_name(name) for name in constants])
        self._functions = _read_numbers(tables[0], (1, 2))
        self._tests = _read_numbers(tables[1], (1, 2))
        self._deeds = _read_numbers(tables[2], (0, 1, 2))
        self._rules = self._read_rules({} if rules is None else rules)
        self._facts = self._read_facts(facts)
        self._apart = self._read_apart(apart)
        if not self._has_world():
            raise NoWorld()

    def functions(self):
        """A new dict from the functions to the number of values that each takes."""
        return dict(self._functions)

    def tests(self):
        """A new dict from the tests to the number of values that each takes."""
        return dict(self._tests)

    def deeds(self):
        """A new dict from the deeds to the number of values that each takes."""
        return dict(self._deeds)

    def rules(self):
        """A new dict from functions and tests to the rule that is known of each."""
        return dict(self._rules)

    def facts(self):
        """A new list of the facts: tuples of a name, a tuple of constants, and what is told."""
        return list(self._facts)

    def apart(self):
        """A new list of the pairs of constants that are known unlike."""
        return list(self._apart)

    def __eq__(self, other):
        return (
            isinstance(other, Names)
            and self.constants == other.constants
            and self._functions == other._functions
            and self._tests == other._tests
            and self._deeds == other._deeds
            and self._rules == other._rules
            and self._facts == other._facts
            and self._apart == other._apart
        )

    def _read_rules(self, rules):
        found = {}
        for name, rule in rules.items():
            word = as_text(rule)
            if not self._can_have(as_text(name), word):
                raise BadRule(name)
            if word == "order" and "order" in list(found.values()):
                raise BadRule(name)
            found[as_text(name)] = word
        return found

    def _can_have(self, name, rule):
        if name in self._functions:
            return rule == ("settles" if self._functions[name] == 1 else "swaps")
        return self._tests.get(name) == 2 and rule in ("both", "order")

    def _read_facts(self, facts):
        found = []
        for index, thing in enumerate(facts):
            fact = self._as_fact(thing)
            if fact is None:
                raise BadFact(index)
            found.append(fact)
        return tuple(found)

    def _as_fact(self, thing):
        """The thing as a plain fact, None if it is none."""
        parts = as_list(thing)
        if parts is None or len(parts) != 3:
            return None
        name, values, worth = as_text(parts[0]), self._as_constants(parts[1]), None
        if values is None:
            return None
        if self._functions.get(name) == len(values):
            worth = self._as_constant(parts[2])
        elif self._tests.get(name) == len(values) and isinstance(parts[2], bool):
            worth = parts[2]
        return None if worth is None else (name, values, worth)

    def _read_apart(self, apart):
        found = []
        for index, thing in enumerate(apart):
            pair = self._as_constants(thing)
            if pair is None or len(pair) != 2 or pair[0] == pair[1]:
                raise BadPair(index)
            found.append(pair)
        return tuple(found)

    def _as_constants(self, thing):
        """The thing as a tuple of constants, None if it is no list of such."""
        things = as_list(thing)
        if things is None:
            return None
        constants = tuple([self._as_constant(part) for part in things])
        return None if None in constants else constants

    def _as_constant(self, thing):
        name = as_text(thing)
        return name if name in self.constants else None

    def _has_world(self):
        known = known_facts(self.constants, self._functions, self._rules, self._facts, self._apart)
        return known.is_possible


def _check_names(things):
    """Each thing has to be a name, and none may stand twice."""
    seen = set()
    for thing in things:
        name = as_name(thing)
        if name is None or name in seen:
            raise BadName(thing)
        seen.add(name)


def _read_numbers(table, allowed):
    found = {}
    for name, number in table.items():
        if as_integer(number) not in allowed:
            raise BadNumber(name)
        found[as_name(name)] = as_integer(number)
    return found
