"""Point [17]: worlds, what they tell, and what is no world."""

import itertools
import random
import unittest

from tests import drawn
from tests.odd import Raises, Text, Yes, no_names, no_texts, no_texts_but_lists, own_list
from unknowncalls.errors import BadWorld, NoName, NoThings
from unknowncalls.names import Names
from unknowncalls.worlds import World

NAMES = Names(
    ["a", "b"], {"f": 1, "g": 2, "s": 2, "h": 1}, {"p": 1, "q": 2, "w": 2, "r": 2}, {"t": 1},
    {"s": "swaps", "h": "settles", "q": "both", "r": "order"})
FACTS = Names(
    ["a", "b"], {"f": 1, "s": 2, "h": 1}, {"p": 1, "r": 2}, {}, {"s": "swaps", "h": "settles", "r": "order"},
    [("f", ["a"], "b"), ("p", ["b"], True), ("p", ["a"], False), ("r", ["b", "a"], True), ("s", ["b", "a"], "a")],
    [("a", "b")])


def made(**others):
    told = {
        "names": NAMES,
        "size": 3,
        "constants": {"a": 1, "b": 2},
        "functions": {
            "f": {(0,): 2, (1,): 0},
            "g": {(0, 1): 2},
            "s": {(0, 1): 2, (2, 2): 1},
            "h": {(0,): 1},
        },
        "tests": {"p": [(1,), (1,)], "q": [(0, 2)], "w": [(0, 2)], "r": [2, 0, 1]},
    }
    told.update(others)
    return World(**told)


def not_things(size=3):
    """New things none of which is a thing of such a world."""
    texts = ["", "a", "0"]
    others = [thing for thing in no_texts() + no_texts_but_lists() if not isinstance(thing, int)]
    return [-1, size, size + 1, 10 ** 40, -(10 ** 40), True, False, *texts, *others, (0,), [0]]


class ToldTest(unittest.TestCase):
    def test_attributes(self):
        self.assertEqual(made().names, NAMES)
        self.assertEqual(made().size, 3)
        self.assertIs(made().size.__class__, int)

    def test_constants(self):
        self.assertEqual([made().constant("a"), made().constant(name="b")], [1, 2])

    def test_functions(self):
        world = made()
        self.assertEqual([world.gives("f", [thing]) for thing in range(3)], [2, 0, 0])
        pairs = list(itertools.product(range(3), repeat=2))
        self.assertEqual([world.gives("g", pair) for pair in pairs], [0, 2, 0, 0, 0, 0, 0, 0, 0])
        self.assertEqual([world.gives("s", list(pair)) for pair in pairs], [0, 2, 0, 2, 0, 0, 0, 0, 1])
        self.assertEqual([world.gives(function="h", things=[thing]) for thing in range(3)], [1, 1, 2])

    def test_tests(self):
        world = made()
        self.assertEqual([world.says("p", [thing]) for thing in range(3)], [False, True, False])
        pairs = list(itertools.product(range(3), repeat=2))
        self.assertEqual([pair for pair in pairs if world.says("q", pair)], [(0, 2), (2, 0)])
        self.assertEqual([pair for pair in pairs if world.says("w", pair)], [(0, 2)])
        self.assertEqual([pair for pair in pairs if world.says(test="r", things=pair)], [(0, 1), (2, 0), (2, 1)])
        for test in ("p", "q", "w", "r"):
            self.assertIsInstance(world.says(test, [0] * NAMES.tests()[test]), bool)

    def test_what_is_not_told(self):
        for told in ({}, {"functions": {}, "tests": {}}, {"functions": None, "tests": None},
                     {"functions": {"f": {}, "h": {}}, "tests": {"p": [], "q": ()}}):
            world = World(NAMES, 3, {"b": 0, "a": 0}, **told)
            self.assertEqual([world.gives("f", [thing]) for thing in range(3)], [0, 0, 0])
            self.assertEqual([world.gives("h", [thing]) for thing in range(3)], [0, 1, 2])
            self.assertEqual(world.gives("s", [2, 1]), 0)
            self.assertFalse(world.says("p", [1]))
            self.assertFalse(world.says("q", [1, 1]))
            self.assertEqual([world.says("r", [0, 1]), world.says("r", [1, 0]), world.says("r", [2, 2])],
                             [True, False, False])

    def test_by_position_tuples_and_lists(self):
        world = World(NAMES, 3, {"b": 2, "a": 1}, {
            "h": {(0,): 1, (1,): 1}, "f": {(1,): 0, (0,): 2}, "g": {(0, 1): 2}, "s": {(1, 0): 2, (2, 2): 1}},
            {"r": (2, 0, 1), "q": ([2, 0],), "w": [[0, 2]], "p": [[1]]})
        self.assertTrue(world == made())

    def test_large(self):
        world = World(Names(["a"], {"f": 1}, {"r": 2}, {}, {"r": "order"}), 10 ** 12, {"a": 10 ** 12 - 1})
        self.assertEqual(world.gives("f", [10 ** 11]), 0)
        self.assertTrue(world.says("r", [5, 10 ** 12 - 1]))

    def test_what_was_passed_may_change_later(self):
        constants, functions, tests = {"a": 1, "b": 2}, {"f": {(0,): 2}}, {"p": [(1,)], "r": [2, 0, 1]}
        world = World(NAMES, 3, constants, functions, tests)
        constants["a"] = 0
        functions["f"][(0,)] = 1
        functions["g"] = {}
        tests["p"].append((2,))
        tests["r"].reverse()
        self.assertEqual(world, World(NAMES, 3, {"a": 1, "b": 2}, {"f": {(0,): 2}}, {"p": [(1,)], "r": [2, 0, 1]}))
        self.assertEqual(world.constant("a"), 1)
        self.assertEqual(world.gives("f", [0]), 2)
        self.assertFalse(world.says("p", [2]))
        self.assertTrue(world.says("r", [2, 0]))

    def test_names_of_another_class(self):
        world = made()
        self.assertEqual(world.constant(Text("a")), 1)
        self.assertEqual(world.gives(Text("f"), (0,)), 2)
        self.assertTrue(world.says(Text("p"), [1]))


class WrongNameTest(unittest.TestCase):
    def test_no_name_ahead_of_no_things(self):
        world = made()
        for tell, others in (
                (lambda name: world.constant(name), ["f", "p", "t", "k"]),
                (lambda name: world.gives(name, Raises()), ["a", "p", "t", "k"]),
                (lambda name: world.says(name, None), ["a", "f", "t", "same"])):
            for thing in [*others, "", "A", *no_names()]:
                with self.assertRaises(NoName) as caught:
                    tell(thing)
                self.assertIs(caught.exception.name, thing)

    def test_no_things(self):
        world = made()
        for name, many in (("f", 1), ("g", 2)):
            wrong = [*no_texts(), None, "", "0", [], (), [0] * (many + 1), own_list()]
            wrong += [[0] * (many - 1) + [thing] for thing in not_things()]
            for things in wrong:
                with self.assertRaises(NoThings) as caught:
                    world.gives(name, things)
                self.assertIs(caught.exception.things, things)
                with self.assertRaises(NoThings) as caught:
                    world.says("p" if many == 1 else "r", things)
                self.assertIs(caught.exception.things, things)


class EqualTest(unittest.TestCase):
    def test_each_part_counts(self):
        self.assertTrue(made() == made())
        self.assertFalse(made() != made())
        more = Names(["a", "b"], {"f": 1, "g": 2, "s": 2, "h": 1}, {"p": 1, "q": 2, "w": 2, "r": 2}, {"t": 2},
                     {"s": "swaps", "h": "settles", "q": "both", "r": "order"})
        for others in (
                {"names": more}, {"size": 4, "tests": {"p": [(1,)], "q": [(0, 2)], "w": [(0, 2)], "r": [2, 0, 1, 3]}},
                {"constants": {"a": 2, "b": 2}}, {"functions": {}}, {"tests": {}},
                {"tests": {"p": [(1,)], "q": [(0, 2)], "w": [(0, 2)]}},
                {"tests": {"p": [(1,)], "q": [(0, 2)], "w": [(2, 0)], "r": [2, 0, 1]}}):
            self.assertFalse(made() == made(**others), others)
            self.assertTrue(made() != made(**others))

    def test_another_size_alone(self):
        self.assertFalse(World(NAMES, 2, {"a": 0, "b": 1}) == World(NAMES, 3, {"a": 0, "b": 1}))
        self.assertFalse(World(NAMES, 2, {"a": 0, "b": 1}) == World(NAMES, 2, {"a": 1, "b": 0}))

    def test_what_is_so_anyway_need_not_be_told(self):
        one = World(NAMES, 2, {"a": 0, "b": 1})
        two = World(NAMES, 2, {"a": 0, "b": 1}, {
            "f": {(0,): 0, (1,): 0}, "h": {(1,): 1}, "s": {(0, 1): 0}, "g": {}}, {"p": [], "r": [0, 1]})
        self.assertTrue(one == two)
        three = World(NAMES, 2, {"a": 0, "b": 1}, {"s": {(0, 1): 1}}, {"q": [(0, 1)]})
        four = World(NAMES, 2, {"a": 0, "b": 1}, {"s": {(0, 1): 1, (1, 0): 1}}, {"q": [(1, 0), (0, 1), (1, 0)]})
        self.assertTrue(three == four)
        self.assertFalse(one == three)

    def test_equal_if_they_tell_the_same(self):
        chance = random.Random(17)
        names = Names(["a"], {"s": 2, "h": 1}, {"q": 2, "r": 2}, {}, {"s": "swaps", "h": "settles", "q": "both", "r": "order"})
        seen = {True: 0, False: 0}
        for _ in range(3000):
            one, two = [drawn.world(chance, names, chance.choice((1, 2))) for _ in range(2)]
            same = one.size == two.size and self.tables(one) == self.tables(two)
            seen[same] += 1
            self.assertIs(one == two, same)
        self.assertGreater(min(seen.values()), 100)

    def tables(self, world):
        ones = [(thing,) for thing in range(world.size)]
        twos = list(itertools.product(range(world.size), repeat=2))
        return (world.constant("a"), [world.gives("h", row) for row in ones], [world.gives("s", row) for row in twos],
                [world.says("q", row) for row in twos], [world.says("r", row) for row in twos])

    def test_equal_to_nothing_else(self):
        for thing in [*no_names(), NAMES, Yes(), Raises()]:
            self.assertIs(made() == thing, False)


class BadWorldTest(unittest.TestCase):
    def bad(self, word, **told):
        with self.assertRaises(BadWorld) as caught:
            made(**told)
        self.assertIs(caught.exception.__class__, BadWorld)
        self.assertEqual(caught.exception.word, word)

    def test_size(self):
        for thing in [0, -1, -(10 ** 30), True, False, 1.0, "3", "", *no_names()]:
            if not isinstance(thing, int) or isinstance(thing, bool) or thing < 1:
                self.bad("size", size=thing, constants=Raises(), functions=Raises(), tests=Raises())

    def test_constants(self):
        wrong = [*[thing for thing in no_texts() if not isinstance(thing, dict)], *no_texts_but_lists(), "ab"]
        wrong += [{}, {"a": 0}, {"a": 0, "b": 1, "c": 2}, {"a": 0, "c": 1}, {"a": 0, "b": 1, "f": 1}, {"a": 0, 1: 1}]
        wrong += [{"b": 1, Yes(): 1}, {"a": 0, None: 1}, {"a": 0, (): 1}, {"a": 0, "b": 1, None: 1}]
        wrong += [{"a": 0, "b": thing} for thing in not_things()]
        for thing in wrong:
            self.bad("constants", constants=thing, functions=Raises(), tests=Raises())
        World(Names(), 1, {})
        with self.assertRaises(BadWorld):
            World(Names(), 1, {"a": 0})

    def test_functions(self):
        wrong = [thing for thing in no_texts() if not isinstance(thing, dict)] + [[], (), "", "f", own_list()]
        wrong += [{name: {}} for name in ["a", "p", "t", "r", "x", "", 0, None, (), Yes()]]
        tables = [thing for thing in no_texts() if not isinstance(thing, dict)] + [None, [], (), "", own_list()]
        wrong += [{"f": table} for table in tables]
        keys = [0, None, "a", (), (0, 0), frozenset([0]), "0", *[(thing,) for thing in (-1, 3, True, None, "a", 1.5, ())]]
        wrong += [{"f": {key: 0}} for key in keys]
        wrong += [{"g": {key: 0}} for key in [(0,), 0, (0, 0, 0), (0, 3), (-1, 0), ((0, 0),)]]
        wrong += [{"f": {(0,): thing}} for thing in not_things()]
        wrong += [{"f": {(0,): 0}, "g": None}, {"h": {(0,): 1, (1,): 0}, "f": {(0,): 3}}]
        for thing in wrong:
            self.bad("functions", functions=thing, tests=Raises())

    def test_tests(self):
        wrong = [thing for thing in no_texts() if not isinstance(thing, dict)] + [[], (), "", "p", own_list()]
        wrong += [{name: []} for name in ["a", "f", "t", "same", "x", "", 0, None, (), Yes()]]
        wrong += [{"p": thing} for thing in [*no_texts(), None, "", "0"]]
        wrong += [{"p": [thing]} for thing in [*not_things()[:-2], 0, (), (0, 0), {}, [()]]]
        wrong += [{"p": [(thing,)]} for thing in not_things()]
        wrong += [{"w": [thing]} for thing in [(0,), (0, 0, 0), (0, 3), [True, 0], 1]]
        wrong += [{"r": thing} for thing in [[], [0], [0, 1], [0, 1, 3], [0, 1, 1], [0, 1, 2, 2], [0, 1, 2, 3],
                                             [(0, 1)], [0, 1, True], [0, False, 2], None, {0: 1}, "012", [0, 1, None]]]
        for thing in wrong:
            self.bad("tests", tests=thing, functions={"h": {(0,): 1, (1,): 0}})

    def test_rules(self):
        for functions in (
                {"s": {(0, 1): 2, (1, 0): 1}}, {"s": {(0, 1): 2, (1, 0): 0}}, {"s": {(2, 2): 1, (0, 2): 0, (2, 0): 1}},
                {"h": {(0,): 1, (1,): 2}}, {"h": {(0,): 1, (1,): 0}}, {"h": {(0,): 1, (1,): 2, (2,): 2}},
                {"h": {(1,): 0, (0,): 2}}):
            self.bad("rules", functions=functions)
        for functions in ({"s": {(0, 1): 2, (1, 0): 2}}, {"h": {(0,): 1, (1,): 1}}, {"h": {(0,): 1, (2,): 1}},
                          {"g": {(0, 1): 2, (1, 0): 1}, "f": {(0,): 1, (1,): 2}}):
            made(functions=functions)

    def test_facts(self):
        right = {
            "constants": {"a": 1, "b": 0}, "functions": {"f": {(1,): 0}, "s": {(1, 0): 1}},
            "tests": {"p": [(0,)]}, "names": FACTS, "size": 2}
        made(**right)
        made(**{**right, "functions": {"s": {(0, 1): 1}, "f": {(0,): 1}}})
        for others in (
                {"functions": {"f": {(1,): 1}, "s": {(1, 0): 1}}}, {"functions": {"f": {(1,): 0}}},
                {"tests": {}}, {"tests": {"p": [(0,), (1,)]}}, {"tests": {"p": [(0,)], "r": [1, 0]}}):
            self.bad("facts", **{**right, **others})

    def test_pairs_that_are_apart(self):
        names = Names(["a", "b", "c"], apart=[("a", "b"), ("c", "b")])
        World(names, 2, {"a": 0, "b": 1, "c": 0})
        for constants in ({"a": 0, "b": 0, "c": 1}, {"a": 0, "b": 1, "c": 1}):
            with self.assertRaises(BadWorld) as caught:
                World(names, 2, constants)
            self.assertEqual(caught.exception.word, "facts")

    def test_the_first_word_that_applies(self):
        wrong = {
            "size": 0, "constants": {}, "functions": {"f": None}, "tests": {"r": []}}
        rules, facts = {"h": {(0,): 1, (1,): 2}}, {"a": 0, "b": 0}
        order = ["size", "constants", "functions", "tests"]
        for at, word in enumerate(order):
            told = {name: wrong[name] for name in order[at:]}
            for name, value in (("constants", facts), ("functions", {})):
                told.setdefault(name, value)
            self.bad(word, **{"names": FACTS, **told})
        self.bad("rules", names=FACTS, constants=facts, functions=rules, tests={})
        self.bad("facts", names=FACTS, constants=facts, functions={}, tests={})


if __name__ == "__main__":
    unittest.main()
