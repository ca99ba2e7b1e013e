"""Point [46]: runs over very long lists."""

import random
from collections import Counter

from tests import drawn
from tests.common import LEAVE, Case, ask, call, do, maker, put, same
from tests.odd import Raises, Text, Yes, no_texts, no_texts_but_lists
from tests.plain import plain_deeds
from unknowncalls.errors import BadBlock, NoNumber, UnlikeNames
from unknowncalls.longs import Long
from unknowncalls.names import Names
from unknowncalls.worlds import World

NAMES = Names(["a"], {"s": 1}, {"p": 1}, {"t": 1, "d": 0, "u": 2})
loop = maker(NAMES)
# s goes around through three things; p says yes of 1.
WORLD = World(NAMES, 3, {"a": 0}, {"s": {(0,): 1, (1,): 2, (2,): 0}}, {"p": [(1,)]})
COUNTER = loop([put("x", "a"), do("d")], [call("x", "s", "x"), ask("p", ["x"], [do("t", "item")])], [do("t", "x")])
HUGE = 10 ** 30


def plainly(told, world, blocks):
    """The deeds, and what the lasting registers hold ahead of the end, item by item."""
    items = [item for things, times in blocks for _ in range(times) for item in things]
    deeds, traces = plain_deeds(told, world, items, [])
    held = {}
    for section in traces[:-1]:
        for place, value in section:
            statement = told.section(place[0])[place[1]]
            for branch, index in zip(place[2::2], place[3::2]):
                statement = statement[2 if branch == "then" else 3][index]
            if statement[0] in ("put", "call", "do") and statement[1] is not None:
                held[statement[1]] = value
    return items, [deed for done in deeds for deed in done], [(name, held[name]) for name in told.lasting()]


class ShortTest(Case):
    def check(self, told, world, blocks):
        items, deeds, held = plainly(told, world, blocks)
        long = Long(told, world, blocks)
        self.assertEqual(long.length(), len(items))
        self.assertEqual(long.many(), len(deeds))
        self.assertEqual([long.nth(n) for n in range(len(deeds) + 2)], deeds + [None, None])
        self.assertEqual(list(long.counts().items()), sorted(Counter(deeds).items()))
        self.assertEqual(list(long.held().items()), held)

    def test_no_items(self):
        self.check(COUNTER, WORLD, [])
        self.check(COUNTER, WORLD, [([], 5), ([], 1)])
        self.check(loop(), WORLD, [([1, 2], 3)])

    def test_one_after_the_other(self):
        for times in range(1, 12):
            self.check(COUNTER, WORLD, [([0, 1], times), ([2], times), ([], 2), ([1, 1, 0], 1)])

    def test_leaves(self):
        told = loop([put("x", "a")], [ask("p", ["item"], [LEAVE]), put("x", "item"), do("t", "x")], [do("t", "x")])
        for blocks in ([([0, 2], 3), ([1], 2), ([2], 4)], [([1], 1)], [([0, 1, 2], 5)], [([2], 7)]):
            self.check(told, WORLD, blocks)

    def test_results_are_0(self):
        told = loop([("do", "x", "d")], [("do", "y", "d"), do("u", "y", "item")], [do("u", "x", "a")])
        self.check(told, World(NAMES, 2, {"a": 1}), [([1, 0], 4)])

    def test_drawn(self):
        chance = random.Random(21)
        seen = 0
        for _ in range(500):
            names = chance.choice(drawn.NAMES)
            told = drawn.Drawing(chance, names, ("x", "y", "z"), 5).loop()
            world = drawn.world(chance, names, chance.randrange(1, 5))
            if world is None:
                continue
            seen += 1
            self.check(told, world, [
                ([chance.randrange(world.size) for _ in range(chance.randrange(5))], chance.randrange(1, 9))
                for _ in range(chance.randrange(4))])
        self.assertGreater(seen, 300)


class LongTest(Case):
    def test_counter(self):
        long = Long(COUNTER, WORLD, [([0, 2, 1], HUGE), ([1], HUGE + 1)])
        self.assertEqual(long.length(), 4 * HUGE + 1)
        # x is 1 at the first of each three items: of the second block these are the first, the fourth, ..
        first, second = HUGE, (HUGE + 3) // 3
        self.assertEqual(long.many(), 2 + first + second)
        self.assertEqual(list(long.counts().items()), [
            (("d", ()), 1), (("t", (0,)), HUGE), (("t", (1,)), second),
            (("t", ((HUGE + 1) % 3,)), 1)])
        self.assertEqual(long.held(), {"x": (4 * HUGE + 1) % 3})
        self.assertEqual(long.nth(0), ("d", ()))
        self.assertEqual(long.nth(HUGE), ("t", (0,)))
        self.assertEqual(long.nth(HUGE + 1), ("t", (1,)))
        self.assertEqual(long.nth(first + second), ("t", (1,)))
        self.assertEqual(long.nth(first + second + 1), ("t", (2,)))
        self.assertIsNone(long.nth(first + second + 2))
        self.assertIsNone(long.nth(HUGE ** 3))

    def test_a_way_ahead_of_the_way_around(self):
        # x becomes y, y becomes item: what was held at first is told twice at most.
        told = loop([put("x", "a"), call("y", "s", "a")], [do("t", "x"), put("x", "y"), put("y", "item")])
        long = Long(told, WORLD, [([2], HUGE)])
        self.assertEqual(long.counts(), {("t", (0,)): 1, ("t", (1,)): 1, ("t", (2,)): HUGE - 2})
        self.assertEqual([long.nth(n) for n in (0, 1, 2, HUGE - 1, HUGE)],
                         [("t", (0,)), ("t", (1,)), ("t", (2,)), ("t", (2,)), None])

    def test_leaves(self):
        told = loop([put("x", "a")], [ask("p", ["item"], [LEAVE]), put("x", "item"), do("t", "x")], [do("u", "x", "a")])
        long = Long(told, WORLD, [([2, 0], HUGE), ([0, 1, 2], HUGE), ([2], HUGE)])
        self.assertEqual(long.many(), 2 * HUGE + 2)
        self.assertEqual(long.counts(), {("t", (0,)): HUGE + 1, ("t", (2,)): HUGE, ("u", (0, 0)): 1})
        self.assertEqual([long.nth(2 * HUGE), long.nth(2 * HUGE + 1)], [("t", (0,)), ("u", (0, 0))])
        self.assertEqual(long.length(), 6 * HUGE)

    def test_as_many_states_as_can_be(self):
        registers = ["r" + letter for letter in "abcdefg"]
        names = Names(["z"], {"s": 1}, {}, {"t": 1})

        def counted(at):
            rest = [same(registers[at], "z", counted(at + 1))] if at < 6 else []
            return [call(registers[at], "s", registers[at]), *rest]

        told = maker(names)([put(name, "z") for name in registers], [*counted(0), do("t", "item")])
        world = World(names, 4, {"z": 0}, {"s": {(0,): 1, (1,): 2, (2,): 3, (3,): 0}})
        blocks = [([number % 4] * 60, HUGE + number) for number in range(30)]
        long = Long(told, world, blocks)
        total = sum(60 * times for _, times in blocks)
        self.assertEqual((long.length(), long.many()), (total, total))
        digits = [(total // 4 ** place) % 4 for place in range(7)]
        self.assertEqual(long.held(), dict(zip(registers, digits)))
        self.assertEqual(long.counts(), {
            ("t", (thing,)): sum(60 * times for items, times in blocks if items[0] == thing) for thing in range(4)})
        self.assertEqual([long.nth(60 * HUGE - 1), long.nth(60 * HUGE)], [("t", (0,)), ("t", (1,))])


class PassedTest(Case):
    def test_tuples_and_names(self):
        one = Long(COUNTER, WORLD, [([0, 1], 5)])
        for other in (Long(loop=COUNTER, world=WORLD, blocks=(((0, 1), 5),)), Long(COUNTER, WORLD, ([[0, 1], 5],))):
            self.assertEqual(
                (one.length(), one.many(), one.counts(), one.held(), one.nth(2)),
                (other.length(), other.many(), other.counts(), other.held(), other.nth(n=2)))

    def test_what_is_told_is_new(self):
        items, pair = [0, 1], [[2], 2]
        blocks = [(items, 3), pair]
        long = Long(COUNTER, WORLD, blocks)
        counts, held = long.counts(), long.held()
        items.append(2)
        pair[1] = 7
        blocks.clear()
        long.counts().clear()
        long.held().clear()
        self.assertEqual((long.length(), long.counts(), long.held()), (8, counts, held))

    def test_unlike_names(self):
        other = Names(["a"], {"s": 1}, {"p": 1}, {"t": 1, "d": 0})
        self.raised(UnlikeNames, Long, maker(other)(), WORLD, [Raises()])
        again = Names(["a"], {"s": 1}, {"p": 1}, {"t": 1, "d": 0, "u": 2})
        self.assertEqual(Long(maker(again)(), WORLD, []).many(), 0)

    def test_blocks(self):
        bad = [
            ([0], 0), ([0], -1), ([0], True), ([0], 1.0), ([0], "1"), ([0], None), ([0], Yes()), ([0], Raises()),
            ([3], 1), ([-1], 1), ([True], 1), ([0, Raises()], 1), ([[0]], 1), ({0: 1}, 1), ("", 1), (range(1), 1),
            ([0],), ([0], 1, 1), [], (), {"a": 1}, "ab", *no_texts(), *no_texts_but_lists(),
        ]
        for thing in bad:
            for blocks in ([thing], [thing, Raises()], (([0], 1), thing)):
                error = self.raised(BadBlock, Long, COUNTER, WORLD, blocks)
                self.assertEqual(error.index, len(blocks) - 1 if blocks[-1] is thing else 0)

    def test_numbers(self):
        long = Long(COUNTER, WORLD, [([0], 3)])
        for thing in [-1, -HUGE, True, False, 1.0, "1", Text("1"), None, [0], (), Yes(), Raises(), {}, b"1"]:
            self.assertIs(self.raised(NoNumber, long.nth, thing).n, thing)


if __name__ == "__main__":
    import unittest
    unittest.main()
