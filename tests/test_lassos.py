"""Point [25]: endless runs of a loop alone. What is drawn is checked in test_places_drawn."""

import random

from tests.common import LEAVE, Case, ask, call, do, maker, put, same
from tests.odd import Raises, Text, Yes, no_names
from unknowncalls.errors import NoName
from unknowncalls.lassos import lasso
from unknowncalls.names import Names
from unknowncalls.rounds import nearest_round

NAMES = Names(["a", "b"], {"f": 1}, {"p": 1}, {"t": 1, "d": 0}, apart=[("a", "b")])
loop = maker(NAMES)
FORGETS = loop([], [call("v", "f", "a"), call("v", "f", "v")])


class LassoTest(Case):
    def test_one_turn(self):
        self.assertEqual(lasso(loop()), ([[]], [[]]))
        self.assertEqual(lasso(loop([], [do("t", "item")])), ([[]], [[]]))
        self.assertIsNone(lasso(loop([], [do("t", "item")]), ["t"]))
        self.assertEqual(lasso(loop([], [do("t", "item")]), ["d"]), ([[]], [[]]))
        self.assertEqual(lasso(loop([], [ask("p", ["item"], [do("t", "item")])]), deeds=("t",)), ([[]], [[False]]))

    def test_every_run_leaves(self):
        self.assertIsNone(lasso(loop([], [LEAVE])))
        self.assertIsNone(lasso(loop([put("x", "a")], [same("x", "b", [LEAVE]), put("x", "b")])))
        self.assertIsNone(lasso(loop([ask("p", ["a"], [put("x", "a")], [put("x", "b")])], [ask("p", ["a"], [LEAVE], [LEAVE])])))

    def test_leaving_now_and_then(self):
        self.assertEqual(lasso(loop([], [ask("p", ["item"], [LEAVE])])), ([[]], [[False]]))

    def test_a_way_around_of_several_turns(self):
        # x goes from a to b and back, and does a deed at one of both.
        one = loop([put("x", "a")], [same("x", "a", [put("x", "b")], [put("x", "a"), do("d")])])
        self.assertEqual(lasso(one), ([[]], [[True], [False]]))
        self.assertIsNone(lasso(one, ["d"]))
        self.assertEqual(lasso(one, ["t"]), ([[]], [[True], [False]]))

    def test_deeds_on_the_way_ahead(self):
        one = loop([put("x", "a")], [same("x", "a", [put("x", "b"), do("d")])])
        self.assertEqual(lasso(one), ([[], [True]], [[False]]))
        self.assertEqual(lasso(one, ["d"]), ([[], [True]], [[False]]))

    def test_as_few_sections_as_can_be(self):
        # From the beginning it goes around in four turns; behind one more turn in one.
        def counted(then):
            return [same("x", "a", [same("y", "a", [put("y", "b"), *then], [put("x", "b")])],
                         [same("y", "b", [put("y", "a")], [put("x", "a")])])]
        one = loop([put("x", "a"), put("y", "a"), put("z", "a")], counted([]))
        self.assertEqual([len(part) for part in lasso(one)], [1, 4])
        one = loop([put("x", "a"), put("y", "a"), put("z", "a")], [same("z", "b", [], [
            ask("p", ["item"], [put("z", "b")], counted([]))])])
        self.assertEqual(lasso(one), ([[], [False, True]], [[True]]))

    def test_the_start_has_answers(self):
        one = loop([ask("p", ["a"], [put("x", "a")], [put("x", "b")])], [same("x", "a", [LEAVE])])
        self.assertEqual(lasso(one), ([[False]], [[False]]))

    def test_pictures_count_and_not_registers_alone(self):
        # Which item was read last is no matter, but that it is not a is known behind the first such turn.
        one = loop([put("x", "a")], [same("item", "a", [LEAVE]), put("x", "item")])
        self.assertEqual(lasso(one), ([[], [False]], [[False]]))

    def test_names(self):
        for thing in ["p", "f", "a", "x", "item", Raises(), Yes(), None, 0, ["t"], ("t",)] + no_names():
            for deeds in ([thing], ["t", thing, Raises()], (Text("d"), thing)):
                self.assertIs(self.raised(NoName, lasso, loop(), deeds).name, thing)
                self.assertIs(self.raised(NoName, lasso, FORGETS, deeds).name, thing)

    def test_forgotten(self):
        self.assertEqual(self.forgets(lasso, FORGETS, ["t"]), (1, ("turn", 0), [([], []), ([], []), ([], [])]))

    def test_new_each_time(self):
        one = loop([], [ask("p", ["item"], [LEAVE])])
        told = lasso(one)
        self.assertEqual([part.__class__ for part in told], [list, list])
        told[0][0].append(True)
        told[1].clear()
        self.assertEqual(lasso(one), ([[]], [[False]]))
        names = ["t"]
        self.assertEqual((lasso(one, names), names), (([[]], [[False]]), ["t"]))

    def test_large(self):
        names = Names(["a", "b"], {"f": 1}, {}, {"t": 1}, facts=[("f", ["a"], "b"), ("f", ["b"], "a")], apart=[("a", "b")])
        registers = ["r" + letter for letter in "abcdefg"]

        def counted(at):
            rest = [same(registers[at], "a", counted(at + 1))] if at < 6 else [do("t", "item")]
            return [call(registers[at], "f", registers[at]), *rest]

        one = maker(names)([put(name, "a") for name in registers], counted(0))
        self.assertEqual([len(part) for part in lasso(one)], [1, 128])
        self.assertIsNone(lasso(one, ["t"]))


class RoundTest(Case):
    def test_all_ways(self):
        chance = random.Random(43)
        seen = 0
        for _ in range(3000):
            outs, depths = graph(chance)
            rounds = simple_rounds(outs)
            told = nearest_round(outs, depths)
            if not rounds:
                self.assertIsNone(told)
                continue
            seen += 1
            least = min(min(depths[number] for number in around) + len(around) for around in rounds)
            self.assertEqual(depths[told[0]] + len(told), least)
            self.assertTrue(all(other in outs[number] for number, other in zip(told, told[1:] + told[:1])))
        self.assertGreater(seen, 500)


def graph(chance):
    """A graph as a list of lists, and the depths of its numbers: those with lesser ones come first."""
    size = chance.randrange(1, 9)
    edges = {number: [other for other in range(size) if chance.randrange(size) == 0] for number in range(size)}
    order, depths = [0], {0: 0}
    for number in order:
        for other in edges[number]:
            if other not in depths:
                depths[other] = depths[number] + 1
                order.append(other)
    at = {number: index for index, number in enumerate(order)}
    return [[at[other] for other in edges[number]] for number in order], [depths[number] for number in order]


def simple_rounds(outs):
    """All ways around that come to no number twice, each once."""
    found = []

    def go(way):
        for other in outs[way[-1]]:
            if other == way[0]:
                found.append(list(way))
            elif other > way[0] and other not in way:
                go(way + [other])

    for first in range(len(outs)):
        go([first])
    return found


if __name__ == "__main__":
    import unittest
    unittest.main()
