"""Points [8], [18] and [22]: loops run in a world."""

import random
import unittest

from tests import drawn
from tests.odd import Raises, no_texts, no_texts_but_lists, own_list
from tests.plain import plain_deeds
from unknowncalls.errors import BadResults, Forgotten, NoThing, UnlikeNames
from unknowncalls.loops import Loop
from unknowncalls.names import Names
from unknowncalls.running import deeds, trace
from unknowncalls.tales import Tale
from unknowncalls.walks import parting
from unknowncalls.worlds import World

NAMES = Names(["a", "b"], {"f": 1, "g": 2}, {"p": 1, "le": 2}, {"tell": 1, "get": 0, "two": 2}, {"le": "order"})
WORLD = World(NAMES, 3, {"a": 1, "b": 2}, {"f": {(0,): 1, (1,): 2, (2,): 0}, "g": {(0, 1): 2}}, {"p": [(2,)], "le": [2, 0, 1]})


def loop(start=(), turn=(), end=(), names=NAMES):
    return Loop(names, start, turn, end)


EACH = loop(
    [("put", "x", "a"), ("call", "y", "f", "x"), ("do", "z", "get"), ("do", None, "tell", "z")],
    [("if", ("same", "item", "x"), [("call", "x", "g", "item", "a")], [("do", None, "two", "x", "item")]),
     ("if", ("ask", "p", "item"), [("do", "z", "get"), ("leave",)], []),
     ("if", ("ask", "le", "z", "item"), [], [("put", "z", "item")])],
    [("do", None, "tell", "z"), ("do", "y", "tell", "y"), ("put", "x", "y")])


class RunTest(unittest.TestCase):
    def test_each_kind_of_statement(self):
        told = trace(EACH, WORLD, [1, 0, 2, 1], [[1], [], [2, 2], [0, 0], [1], [0, 2]])
        self.assertEqual(told, [
            [(("start", 0), 1), (("start", 1), 2), (("start", 2), 1), (("start", 3), 0)],
            [(("turn", 0), True), (("turn", 0, "then", 0), 0), (("turn", 1), False), (("turn", 2), False),
             (("turn", 2, "else", 0), 1)],
            [(("turn", 0), True), (("turn", 0, "then", 0), 2), (("turn", 1), False), (("turn", 2), False),
             (("turn", 2, "else", 0), 0)],
            [(("turn", 0), True), (("turn", 0, "then", 0), 0), (("turn", 1), True), (("turn", 1, "then", 0), 0),
             (("turn", 1, "then", 1), None)],
            [],
            [(("end", 0), 0), (("end", 1), 2), (("end", 2), 2)],
        ])
        for row in told:
            self.assertIs(row.__class__, list)
            for place, value in row:
                self.assertIs(place.__class__, tuple)
        self.assertEqual(deeds(EACH, WORLD, [1, 0, 2, 1], [[1], [], [2, 2], [0, 0], [1], [0, 2]]), [
            [("get", ()), ("tell", (1,))], [], [], [("get", ())], [], [("tell", (0,)), ("tell", (2,))]])
        self.assertEqual(deeds(EACH, WORLD, [0, 2], [[0]]), [
            [("get", ()), ("tell", (0,))], [("two", (1, 0))], [("two", (1, 2)), ("get", ())], [("tell", (0,)), ("tell", (2,))]])

    def test_truth_values_and_things(self):
        for row in trace(EACH, WORLD, [1, 0, 2], [[1], [2]]):
            for place, value in row:
                kind = {"start": int, "end": int}.get(place[0])
                if place in (("turn", 0), ("turn", 1), ("turn", 2)):
                    kind = bool
                if kind:
                    self.assertIs(value.__class__, kind)

    def test_nothing(self):
        self.assertEqual(trace(loop(), WORLD, []), [[], []])
        self.assertEqual(deeds(loop=loop(), world=WORLD, items=[0, 1], results=()), [[], [], [], []])

    def test_results_that_are_too_few(self):
        one = loop([("do", "x", "get"), ("do", "y", "get")], [("do", "x", "get")], [("do", None, "two", "x", "y")])
        self.assertEqual([deeds(one, WORLD, [0], results)[2] for results in (
            (), [], [[]], [[2]], [[2, 1]], [[2, 1], [1]], [[], [1]], [[0, 2, 1, 1], (), ()], ((1, 1), (2, 0), (1,)))], [
                [("two", values)] for values in
                ((0, 0), (0, 0), (0, 0), (0, 0), (0, 1), (1, 1), (1, 0), (0, 2), (2, 1))])

    def test_a_result_that_no_register_takes_is_told(self):
        one = loop([("do", None, "get"), ("do", "x", "get")])
        self.assertEqual(trace(one, WORLD, [], [[2, 1]])[0], [(("start", 0), 2), (("start", 1), 1)])

    def test_once_it_has_left(self):
        one = loop([("put", "x", "a")], [("put", "x", "item"), ("leave",)], [("do", None, "tell", "x")])
        self.assertEqual(deeds(one, WORLD, [2, 0, 1]), [[], [], [], [], [("tell", (2,))]])
        self.assertEqual(trace(one, WORLD, [2, 0])[1:], [[(("turn", 0), 2), (("turn", 1), None)], [], [(("end", 0), 0)]])

    def test_registers_that_are_not_lasting(self):
        one = loop([], [("put", "x", "item"), ("do", None, "tell", "x")], [("put", "x", "a"), ("do", None, "tell", "x")])
        self.assertEqual(deeds(one, WORLD, (2, 0)), [[], [("tell", (2,))], [("tell", (0,))], [("tell", (1,))]])

    def test_what_is_told_is_new(self):
        for work in (trace, deeds):
            told = work(EACH, WORLD, [1])
            before = [list(row) for row in told]
            told[0].clear()
            told.pop()
            self.assertEqual(work(EACH, WORLD, [1]), before)

    def test_large_worlds(self):
        names = Names(["a"], {"f": 1}, {}, {"tell": 1})
        world = World(names, 1000, {"a": 0}, {"f": {(thing,): thing + 1 for thing in range(999)}})
        one = Loop(names, [("put", "x", "a")], [("call", "x", "f", "x"), ("do", None, "tell", "x")], [])
        self.assertEqual(deeds(one, world, [0] * 1200)[999:1002], [[("tell", (999,))], [("tell", (0,))], [("tell", (1,))]])

    def test_drawn(self):
        chance = random.Random(18)
        for _ in range(1500):
            names = chance.choice(drawn.NAMES)
            one = drawn.Drawing(chance, names, ("x", "y", "z"), 6, 3).loop()
            world = drawn.world(chance, names, chance.randrange(1, 5))
            if world is None:
                continue
            items = [chance.randrange(world.size) for _ in range(chance.randrange(8))]
            results = [[chance.randrange(world.size) for _ in range(chance.randrange(4))]
                       for _ in range(chance.randrange(len(items) + 3))]
            done, traced = plain_deeds(one, world, items, results)
            self.assertEqual(deeds(one, world, items, results), done)
            self.assertEqual(trace(one, world, items, results), traced)


class CheckTest(unittest.TestCase):
    """Point [22]: what parting and a tale tell can be checked."""

    def test_partings(self):
        chance = random.Random(22)
        seen = 0
        for _ in range(400):
            one, other = drawn.pair(chance)
            try:
                told = parting(one, other)
            except Forgotten:
                continue
            if told is None:
                continue
            seen += 1
            world, items, results = told
            done, others = deeds(one, world, items, results), deeds(other, world, items, results)
            last = len(done) - 1 if done[:-1] == others[:-1] else len(done) - 2
            self.assertNotEqual(done[last], others[last])
            self.assertEqual(done[:last], others[:last])
        self.assertGreater(seen, 100)

    def test_a_tale(self):
        tale = Tale(EACH, loop(), [([], []), ([True, False, True], []), ([False, True], [])])
        world, items, results = tale.world()
        said = [[value for _, value in row if isinstance(value, bool)] for row in trace(EACH, world, items, results)]
        self.assertEqual(said[:3], [[], [True, False, True], [False, True]])


class WrongTest(unittest.TestCase):
    def raised(self, error, *told, **more):
        for work in (trace, deeds):
            with self.assertRaises(error) as caught:
                work(*told, **more)
            self.assertIs(caught.exception.__class__, error)
        return caught.exception

    def not_things(self):
        others = [thing for thing in no_texts() + no_texts_but_lists() if not isinstance(thing, int)]
        return [-1, 3, 10 ** 30, True, False, "", "a", "0", *others]

    def test_unlike_names(self):
        other = Names(["a", "b"], {"f": 1, "g": 2}, {"p": 1, "le": 2}, {"tell": 1, "get": 0, "two": 2})
        self.raised(UnlikeNames, Loop(other, [], [], []), WORLD, [None], None)

    def test_items(self):
        for thing in self.not_things():
            self.assertEqual(self.raised(NoThing, EACH, WORLD, [thing]).index, 0)
            self.assertEqual(self.raised(NoThing, EACH, WORLD, [0, 2, thing, Raises()], [None]).index, 2)
            self.assertEqual(self.raised(NoThing, loop([], [("leave",)]), WORLD, (0, thing)).index, 1)

    def test_results(self):
        wrong = [*no_texts(), None, "", "0", own_list(), *[[0, thing] for thing in self.not_things()]]
        for thing in wrong:
            for ahead in range(5):
                rows = [[]] * ahead + [thing]
                self.assertEqual(self.raised(BadResults, EACH, WORLD, [0], rows).index, ahead)
                self.assertEqual(self.raised(BadResults, EACH, WORLD, [0], rows + [Raises(), []]).index, ahead)

    def test_more_results_than_sections(self):
        for items in ([], [0], [2, 2, 2]):
            many = len(items) + 2
            deeds(EACH, WORLD, items, [[]] * many)
            for more in (1, 2, 5):
                self.assertEqual(self.raised(BadResults, EACH, WORLD, items, [[1]] * (many + more)).index, many)
            self.assertEqual(self.raised(BadResults, EACH, WORLD, items, [[]] * (many + 3) + [[5]]).index, many + 3)


if __name__ == "__main__":
    unittest.main()
