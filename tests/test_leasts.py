"""Point [21]: worlds with as few things as can be."""

import itertools
import random

from tests import drawn
from tests.common import Case, ask, call, do, maker, put, same
from tests.plain import plain_deeds
from unknowncalls.errors import Impossible, TooMany
from unknowncalls.leasts import least_world
from unknowncalls.living import Live
from unknowncalls.loops import Loop
from unknowncalls.names import Names
from unknowncalls.tales import Tale
from unknowncalls.worlds import World

NAMES = Names(["a", "b"], {"f": 1}, {"p": 1, "r": 2}, {"t": 1, "d": 0}, {"r": "order"}, apart=[("a", "b")])
loop = maker(NAMES)
NOTHING = loop()
SMALL = [
    Names(["a"], {"f": 1}, {"p": 1}, {"t": 1}),
    Names([], {"h": 1}, {"q": 2}, {"t": 1}, {"h": "settles", "q": "both"}),
    Names(["a"], {"s": 2}, {}, {"t": 1}, {"s": "swaps"}),
    Names(["a", "b"], {"f": 1}, {"r": 2}, {"t": 1}, {"r": "order"}, [("f", ["a"], "b")]),
    Names(["a", "b"], {"h": 1}, {"r": 2}, {"t": 1}, {"r": "order", "h": "settles"}, [("r", ["b", "a"], True)]),
]


def answered(told, world, items, results, sections):
    """The answers in so many sections, and the deeds of each."""
    deeds, traces = plain_deeds(told, world, items, results)
    truths = [[value for _, value in trace if value is True or value is False] for trace in traces]
    return truths[:sections], deeds[:sections]


def worlds(names, size):
    """All worlds of a size."""
    tables = []
    for name, many in names.functions().items():
        rows = list(itertools.product(range(size), repeat=many))
        tables.append([("functions", name, dict(zip(rows, told))) for told in itertools.product(range(size), repeat=len(rows))])
    for name, many in names.tests().items():
        rows = list(itertools.product(range(size), repeat=many))
        if names.rules().get(name) == "order":
            tables.append([("tests", name, list(told)) for told in itertools.permutations(range(size))])
        else:
            picks = [[row for row, bit in zip(rows, bits) if bit] for bits in itertools.product((0, 1), repeat=len(rows))]
            tables.append([("tests", name, told) for told in picks])
    for told in itertools.product(range(size), repeat=len(names.constants)):
        for rows in itertools.product(*tables):
            parts = {"functions": {}, "tests": {}}
            for part, name, row in rows:
                parts[part][name] = row
            try:
                yield World(names, size, dict(zip(names.constants, told)), **parts)
            except ValueError:
                continue


class LeastTest(Case):
    def check(self, one, other, answers, ended):
        """Checks a least world; returns it."""
        tale = Tale(one, other, answers, ended)
        told = least_world(tale)
        self.assertIs(told.__class__, tuple)
        self.goes_as_told(one, other, answers, ended, *told)
        return told

    def goes_as_told(self, one, other, answers, ended, world, items, results):
        tale = Tale(one, other, answers, ended)
        self.assertEqual((len(items), len(results)), (len(answers) - (2 if ended else 1), len(answers)))
        self.assertLessEqual(world.size, max(1, len(tale.groups())))
        rows = [answered(part, world, items, results, len(answers)) for part in (one, other)]
        self.assertEqual([(list(first), list(second)) for first, second in answers], list(zip(rows[0][0], rows[1][0])))
        parted = [index for index, (done, others) in enumerate(zip(rows[0][1], rows[1][1])) if done != others]
        if tale.parts() is not None:
            self.assertEqual(parted[0], tale.parts())

    def can_be(self, one, other, answers, ended, world):
        """Whether the run goes as it is told, and parts where it does, in this world over some items."""
        tale = Tale(one, other, answers, ended)
        sections, turns = len(answers), len(answers) - (2 if ended else 1)
        many = max([len(done) for side in (1, 2) for done in tale.deeds(side)])
        rows = itertools.product(range(world.size), repeat=turns + many * sections)
        for row in rows:
            items, rest = list(row[:turns]), row[turns:]
            results = [list(rest[many * at:many * at + many]) for at in range(sections)]
            both = [answered(part, world, items, results, sections) for part in (one, other)]
            if list(zip(both[0][0], both[1][0])) != [(list(first), list(second)) for first, second in answers]:
                continue
            parted = [index for index in range(sections) if both[0][1][index] != both[1][1][index]]
            if tale.parts() is None or parted[:1] == [tale.parts()]:
                return True
        return False

    def test_that_no_world_with_fewer_things_would_do(self):
        chance = random.Random(31)
        sizes, seen = {}, 0
        while seen < 1500:
            names = chance.choice(SMALL)
            drawing = drawn.Drawing(chance, names, ("x",), 3)
            one, other = drawing.loop(1, 1), drawing.loop(1, 1)
            live = Live(one, other)
            for step in [None] * chance.randrange(3) + [live.finish]:
                while live.question() is not None:
                    truth = chance.randrange(2) == 1
                    live.answer(truth if live.forced() is None else live.forced())
                if step is None:
                    live.item()
                elif chance.randrange(2):
                    step()
            while live.question() is not None:
                live.answer(live.forced() is not False)
            answers, ended = live.so_far(), live.is_over()
            tale = Tale(one, other, answers, ended)
            deeds = sum(len(done) for side in (1, 2) for done in tale.deeds(side))
            if len(tale.groups()) > 7 or deeds > 4:
                continue
            world, _, _ = self.check(one, other, answers, ended)
            if world.size > 3 or (world.size == 3 and tale.parts() is None and chance.randrange(4)):
                continue
            seen += 1
            key = (world.size, tale.parts() is not None)
            sizes[key] = sizes.get(key, 0) + 1
            for size in range(1, world.size):
                for small in worlds(names, size):
                    self.assertFalse(self.can_be(one, other, answers, ended, small), (one.section("turn"), answers))
        self.assertGreater(min(sizes.get((size, parts), 0) for size in (1, 2) for parts in (False, True)), 100, sizes)
        self.assertGreater(sizes.get((3, True), 0), 5)

    def test_one_thing_is_enough(self):
        one = loop([], [call("x", "f", "item"), do("t", "x")])
        names = Names([], {"f": 1}, {}, {"t": 1})
        one = Loop(names, [], one.section("turn"), [])
        world, items, results = self.check(one, one, [([], [])] * 3, False)
        self.assertEqual((world.size, items, results), (1, [0, 0], [[], [0], [0]]))

    def test_no_groups(self):
        empty = Loop(Names(), [], [], [])
        world, items, results = self.check(empty, empty, [([], [])], False)
        self.assertEqual((world.size, items, results), (1, [], [[]]))

    def test_parts_take_two_things(self):
        names = Names([], {"f": 1}, {}, {"t": 1})
        one = Loop(names, [], [do("t", "item")], [])
        other = Loop(names, [], [call("x", "f", "item"), do("t", "x")], [])
        answers = [([], [])] * 3
        world, items, _ = self.check(one, other, answers, False)
        self.assertEqual(world.size, 2)
        self.assertNotEqual(world.gives("f", items[:1]), items[0])
        # Deeds of other names part anyhow, in a world of one thing.
        other = Loop(names, [], [], [])
        self.assertEqual(self.check(one, other, answers, False)[0].size, 1)

    def test_parts_in_the_same_section(self):
        # In the first turn both tell the same, in the second one they do not.
        names = Names(["a"], {"f": 1}, {}, {"t": 1})
        one = Loop(names, [put("x", "a")], [do("t", "x"), call("x", "f", "x")], [])
        other = Loop(names, [], [do("t", "a")], [])
        answers = [([], [])] * 3
        self.assertEqual(Tale(one, other, answers).parts(), 2)
        world, items, results = self.check(one, other, answers, False)
        self.assertEqual(world.size, 2)
        self.assertEqual(world.gives("f", [world.constant("a")]) == world.constant("a"), False)

    def test_answers_keep_things_apart(self):
        one = loop([], [ask("r", ["item", "a"]), ask("p", ["item"]), same("item", "b")])
        cases = [([True, True, False], 3), ([False, True, False], 2), ([False, True, True], 2), ([True, False, True], 2)]
        for truths, size in cases:
            world, _, _ = self.check(one, NOTHING, [([], []), (truths, [])], False)
            self.assertEqual(world.size, size, truths)
        self.raised(Impossible, Tale, one, NOTHING, [([], []), ([True, True, True], []), ([True, False, True], [])])

    def test_too_many(self):
        names = Names(["a", "b", "c"], {}, {}, {"t": 1})
        one = Loop(names, [], [do("t", "item")], [])
        for many in range(1, 8):
            tale = Tale(one, one, [([], [])] * (many + 1))
            if many <= 2:
                self.assertEqual(least_world(tale=tale)[0].size, 1)
            else:
                self.assertEqual(self.raised(TooMany, least_world, tale).total, 2 * many + 3)
        one = Loop(names, [], [same("item", "a", [], [])], [])
        tale = Tale(one, one, [([], [])] + [([True], [True])] * 7)
        self.assertEqual((least_world(tale)[0].size, tale.many()), (1, 10))

    def test_new_each_time(self):
        one = loop([], [ask("p", ["item"]), do("t", "item")])
        tale = Tale(one, one, [([], []), ([True], [True]), ([False], [False])])
        first = least_world(tale)
        first[1].clear()
        first[2].clear()
        again = least_world(Tale(one, one, [([], []), ([True], [True]), ([False], [False])]))
        self.assertEqual(least_world(tale), again)
        self.assertEqual((again[1].__class__, again[2].__class__, len(again[1])), (list, list, 2))
        self.assertEqual(len(tale.groups()), 6)


if __name__ == "__main__":
    import unittest
    unittest.main()
