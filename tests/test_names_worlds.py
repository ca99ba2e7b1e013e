"""The closing of point [4]: whether some world has the facts and the unlike pairs."""

import itertools
import random
import unittest

from unknowncalls.errors import NoWorld
from unknowncalls.names import Names

TABLES = (
    {"f": 1, "h": 1, "g": 2, "k": 2},
    {"p": 1, "q": 2, "r": 2, "s": 2},
    {"d": 1},
    {"h": "settles", "g": "swaps", "q": "both", "r": "order"},
)


def has_world(facts, apart=(), constants=("a", "b", "c")):
    try:
        Names(list(constants), *TABLES, facts=facts, apart=apart)
    except NoWorld:
        return False
    return True


def things_of(constants):
    """All ways in which constants can be things; a world may have more things than these."""
    for things in itertools.product(range(len(constants)), repeat=len(constants)):
        if all(thing <= max(things[:at], default=-1) + 1 for at, thing in enumerate(things)):
            yield dict(zip(constants, things))


def is_function(rows, rule):
    table = {}
    for values, worth in rows:
        told = {values: worth}
        if rule == "swaps":
            told[values[::-1]] = worth
        if rule == "settles":
            told[(worth,)] = worth
        for key, thing in told.items():
            if table.setdefault(key, thing) != thing:
                return False
    return True


def is_test(rows, rule, things):
    if rule == "order":
        return any(
            all((line.index(x) < line.index(y)) == truth for (x, y), truth in rows)
            for line in itertools.permutations(sorted(set(things.values()))))
    table = {}
    for values, truth in rows:
        for key in (values, values[::-1] if rule == "both" else values):
            if table.setdefault(key, truth) != truth:
                return False
    return True


def has_world_by_trying(facts, apart, constants):
    functions, tests, _, rules = TABLES
    for things in things_of(constants):
        rows = {name: [] for name in [*functions, *tests]}
        for name, values, worth in facts:
            rows[name].append((tuple(things[value] for value in values), things.get(worth, worth)))
        if (all(things[one] != things[other] for one, other in apart)
                and all(is_function(rows[name], rules.get(name)) for name in functions)
                and all(is_test(rows[name], rules.get(name), things) for name in tests)):
            return True
    return False


class NoWorldTest(unittest.TestCase):
    def test_one_call_has_one_result(self):
        facts = [("f", ["a"], "a"), ("f", ["a"], "b")]
        self.assertTrue(has_world(facts))
        self.assertFalse(has_world(facts, [("a", "b")]))
        self.assertFalse(has_world(facts, [("b", "a")]))
        self.assertTrue(has_world([("f", ["a"], "a"), ("f", ["b"], "b")], [("a", "b")]))

    def test_other_functions_may_give_others(self):
        self.assertTrue(has_world([("f", ["a"], "a"), ("h", ["a"], "b")], [("a", "b")]))
        self.assertTrue(has_world([("k", ["a", "b"], "a"), ("k", ["b", "a"], "b")], [("a", "b")]))

    def test_calls_of_values_that_become_equal(self):
        facts = [("f", ["a"], "b"), ("f", ["a"], "c"), ("k", ["b", "a"], "a"), ("k", ["c", "a"], "e")]
        constants = ("a", "b", "c", "e")
        self.assertTrue(has_world(facts, (), constants))
        self.assertTrue(has_world(facts, [("a", "b")], constants))
        self.assertFalse(has_world(facts, [("a", "e")], constants))
        self.assertFalse(has_world(list(reversed(facts)), [("a", "e")], constants))

    def test_swaps(self):
        facts = [("g", ["a", "b"], "a"), ("g", ["b", "a"], "b")]
        self.assertTrue(has_world(facts))
        self.assertFalse(has_world(facts, [("a", "b")]))

    def test_settles(self):
        facts = [("h", ["a"], "b"), ("h", ["b"], "c")]
        self.assertTrue(has_world(facts))
        self.assertFalse(has_world(facts, [("b", "c")]))
        self.assertTrue(has_world([("f", ["a"], "b"), ("f", ["b"], "c")], [("b", "c")]))

    def test_both(self):
        self.assertFalse(has_world([("q", ["a", "b"], True), ("q", ["b", "a"], False)]))
        self.assertTrue(has_world([("s", ["a", "b"], True), ("s", ["b", "a"], False)]))
        self.assertTrue(has_world([("q", ["a", "b"], False), ("q", ["b", "a"], False)]))

    def test_yes_and_no(self):
        self.assertFalse(has_world([("p", ["a"], True), ("p", ["a"], False)]))
        self.assertTrue(has_world([("p", ["a"], True), ("p", ["b"], False)]))
        self.assertFalse(has_world(
            [("p", ["a"], True), ("p", ["b"], False), ("f", ["c"], "a"), ("f", ["c"], "b")]))

    def test_order(self):
        self.assertFalse(has_world([("r", ["a", "a"], True)]))
        self.assertTrue(has_world([("r", ["a", "a"], False)]))
        self.assertTrue(has_world([("s", ["a", "a"], True)]))
        self.assertTrue(has_world([("q", ["a", "a"], True)]))
        self.assertFalse(has_world([("r", ["a", "b"], True), ("r", ["b", "a"], True)]))
        self.assertFalse(has_world([("r", ["a", "b"], True), ("r", ["b", "c"], True), ("r", ["c", "a"], True)]))
        self.assertFalse(has_world([("r", ["a", "b"], True), ("r", ["b", "c"], True), ("r", ["a", "c"], False)]))
        self.assertTrue(has_world([("r", ["a", "b"], True), ("r", ["b", "c"], True), ("r", ["c", "a"], False)]))

    def test_order_that_is_not_strict_joins(self):
        facts = [("r", ["a", "b"], False), ("r", ["b", "a"], False)]
        self.assertTrue(has_world(facts))
        self.assertFalse(has_world(facts, [("a", "b")]))
        facts = [("r", ["a", "b"], False), ("r", ["b", "c"], False), ("r", ["c", "a"], False)]
        self.assertTrue(has_world(facts))
        for pair in itertools.permutations("abc", 2):
            self.assertFalse(has_world(facts, [pair]))
        self.assertTrue(has_world(facts[:2], [("a", "b"), ("b", "c"), ("a", "c")]))

    def test_a_tie_joins_results_and_results_make_a_tie(self):
        ties = [("r", ["a", "b"], False), ("r", ["b", "a"], False)]
        calls = [("f", ["a"], "a"), ("f", ["b"], "c")]
        self.assertFalse(has_world(ties + calls, [("b", "c")]))
        calls = [("f", ["a"], "b"), ("f", ["a"], "c")]
        ahead = [("r", ["a", "b"], True), ("r", ["a", "c"], False)]
        self.assertFalse(has_world(calls + ahead))

    def test_unlike_pairs_alone(self):
        self.assertTrue(has_world([], list(itertools.permutations("abc", 2))))

    def test_without_constants(self):
        self.assertTrue(has_world([], [], ()))

    def test_as_by_trying(self):
        chance = random.Random(4)
        constants = ("a", "b", "c", "e")
        functions, tests = TABLES[:2]
        seen = {True: 0, False: 0}
        for _ in range(3000):
            facts = []
            for _ in range(chance.randrange(1, 7)):
                name = chance.choice([*functions, *tests, "r", "r"])
                number = functions.get(name, tests.get(name))
                values = tuple(chance.choice(constants) for _ in range(number))
                facts.append((name, values, chance.choice(constants if name in functions else (True, False))))
            apart = [chance.choice(list(itertools.permutations(constants, 2))) for _ in range(chance.randrange(4))]
            told = has_world_by_trying(facts, apart, constants)
            seen[told] += 1
            self.assertIs(has_world(facts, apart, constants), told, (facts, apart))
        self.assertGreater(min(seen.values()), 300)


if __name__ == "__main__":
    unittest.main()
