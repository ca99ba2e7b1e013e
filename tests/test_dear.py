"""Points [32] and [33]: what turns cost, and calls that are hoisted. What is drawn is checked in test_places_drawn."""

import random
from fractions import Fraction

from tests import drawn
from tests.common import LEAVE, Case, ask, call, do, maker, put, same
from tests.odd import Raises, Yes
from tests.plain import plain_deeds
from tests.test_lassos import graph, simple_rounds
from unknowncalls.dear import dearest, hoisted, turn_costs
from unknowncalls.errors import BadWeight
from unknowncalls.loops import Loop
from unknowncalls.means import dearest_round
from unknowncalls.names import Names
from unknowncalls.walks import alike

NAMES = Names(["a", "b"], {"f": 1, "g": 2, "s": 2}, {"p": 1}, {"t": 1, "d": 0}, {"s": "swaps"}, apart=[("a", "b")])
loop = maker(NAMES)
FORGETS = loop([], [call("v", "f", "a"), call("v", "f", "v")])
WAY = (1, ("turn", 0), [([], []), ([], []), ([], [])])
# It goes from a to b and back: the first turn calls f, the second one asks p and does t or not.
ROUND = loop([put("x", "a")], [same("x", "a", [call("y", "f", "item"), put("x", "b")], [ask("p", ["item"], [do("t", "a")]), put("x", "a")])])


class CostTest(Case):
    def test_costs(self):
        weights = {"f": 7, "same": 1, "p": 2, "t": 5}
        self.assertEqual(turn_costs(ROUND, weights), (3, 8))
        self.assertEqual(turn_costs(loop=ROUND, weights={}), (0, 0))
        self.assertEqual(turn_costs(ROUND, {"f": -7, "d": 100}), (-7, 0))
        self.assertEqual(turn_costs(ROUND, {"same": 10 ** 40}), (10 ** 40, 10 ** 40))

    def test_of_what_runs_come_to(self):
        one = loop([put("x", "a"), call("y", "f", "a")], [same("x", "a", [do("t", "x")], [do("d")])], [do("d")])
        self.assertEqual(turn_costs(one, {"t": 3, "d": 50, "f": 100}), (3, 3))

    def test_turns_that_leave_count_as_well(self):
        one = loop([], [ask("p", ["item"], [do("t", "a"), LEAVE])])
        self.assertEqual(turn_costs(one, {"t": 3, "p": 1}), (1, 4))
        one = loop([], [do("t", "a"), LEAVE])
        self.assertEqual(turn_costs(one, {"t": 3}), (3, 3))

    def test_nothing(self):
        self.assertEqual(turn_costs(loop(), {"t": 3}), (0, 0))

    def test_forgotten(self):
        self.assertEqual(self.forgets(turn_costs, FORGETS, {}), WAY)
        self.assertEqual(self.forgets(dearest, FORGETS, {}), WAY)


class DearestTest(Case):
    def test_one_turn_around(self):
        one = loop([], [ask("p", ["item"], [do("t", "a")])])
        self.assertEqual(dearest(one, {"t": 3, "p": 1}), (4, 1, 0, ([[]], [[True]])))
        self.assertEqual(dearest(one, {"t": -3, "p": 1}), (1, 1, 0, ([[]], [[False]])))
        self.assertEqual(dearest(loop=one, weights={"t": -3, "p": -1}), (-1, 1, 0, ([[]], [[False]])))

    def test_two_turns_around(self):
        # 8 and 8 of two, or 8 and 3: the first turn costs as much as the mean.
        self.assertEqual(dearest(ROUND, {"f": 7, "same": 1, "p": 2, "t": 5}), (8, 1, 0, ([[]], [[True], [False, True]])))
        above, below, surplus, (ahead, around) = dearest(ROUND, {"f": 7, "same": 1, "p": 2, "t": 4})
        # 8 and 7: the first one is 1/2 above the mean.
        self.assertEqual((above, below, surplus), (15, 2, 1))
        self.assertEqual((ahead, around), ([[]], [[True], [False, True]]))
        above, below, surplus, (ahead, around) = dearest(ROUND, {"f": 7, "same": 1, "p": 4, "t": 4})
        # 8 and 9: each beginning is below.
        self.assertEqual((above, below, surplus), (17, 2, 0))

    def test_lowest_terms(self):
        self.assertEqual(dearest(ROUND, {"f": 2})[:3], (1, 1, 1))
        self.assertEqual(dearest(ROUND, {"f": 3})[:3], (3, 2, 3))
        self.assertEqual(dearest(ROUND, {"f": -3})[:3], (-3, 2, 0))
        self.assertEqual(dearest(ROUND, {"t": -3})[:3], (0, 1, 0))
        self.assertEqual(dearest(ROUND, {"f": 10 ** 30 + 1})[:3], (10 ** 30 + 1, 2, 10 ** 30 + 1))

    def test_dear_turns_ahead(self):
        # The first turn alone calls g: it is dear, but does not come again.
        one = loop([put("x", "a")], [same("x", "a", [call("y", "g", "a", "item"), put("x", "b")], [ask("p", ["item"])])])
        told = dearest(one, {"g": 100, "p": 1})
        self.assertEqual(told[:3], (1, 1, 99))
        self.assertEqual((told[3][0], len(told[3][1]), told[3][1][0][0]), ([[], [True]], 1, False))

    def test_every_run_leaves(self):
        self.assertIsNone(dearest(loop([], [do("t", "a"), LEAVE]), {"t": 3}))
        one = loop([put("x", "a")], [same("x", "b", [do("t", "a"), LEAVE]), put("x", "b")])
        self.assertIsNone(dearest(one, {"t": 3}))

    def test_turns_that_leave_do_not_count(self):
        one = loop([], [ask("p", ["item"], [do("t", "a"), LEAVE])])
        self.assertEqual(dearest(one, {"t": 100, "p": 1}), (1, 1, 0, ([[]], [[False]])))

    def test_no_run_costs_more(self):
        chance = random.Random(81)
        for _ in range(60):
            names = chance.choice(drawn.NAMES)
            one = drawn.Drawing(chance, names, ("x", "y"), 3).loop()
            weights = {name: chance.randrange(-3, 6) for name in [*names.functions(), *names.tests(), *names.deeds(), "same"]}
            try:
                told = dearest(one, weights)
            except ValueError:
                continue
            for _ in range(10):
                world = drawn.world(chance, names, chance.randrange(1, 4))
                if world is None or told is None:
                    continue
                items = [chance.randrange(world.size) for _ in range(7)]
                results = [[chance.randrange(world.size) for _ in range(4)] for _ in range(9)]
                _, traces = plain_deeds(one, world, items, results)
                total = 0
                for number, section in enumerate(traces[1:-1], 1):
                    words = [word_at(one, place) for place, _ in section]
                    if ("leave", None) in words:
                        break
                    total += sum(weights.get(name, 0) for _, name in words)
                    self.assertLessEqual(total * told[1], told[0] * number + told[2])

    def test_large(self):
        names = Names(["a", "b", "c", "d"], {"f": 1}, {"p": 1}, {"t": 1}, {}, [
            ("f", [one], other) for one, other in zip("abcd", "bcda")], [(one, other) for one in "abcd" for other in "abcd" if one < other])
        registers = ["r" + letter for letter in "abcdef"]

        def counted(at):
            rest = [same(registers[at], "a", counted(at + 1))] if at < 5 else []
            return [call(registers[at], "f", registers[at]), *rest]

        start = [put(name, "a") for name in registers]
        one = maker(names)(start, counted(0))
        above, below, surplus, (ahead, around) = dearest(one, {"f": 3, "same": 5})
        # The first register costs 8 in each turn, the second one in each fourth, and so on; the last one asks nothing.
        mean = sum(Fraction(8, 4 ** at) for at in range(5)) + Fraction(3, 4 ** 5)
        self.assertEqual((Fraction(above, below), below, surplus), (mean, mean.denominator, 0))
        self.assertEqual((ahead, len(around)), ([[]], 4096))
        one = maker(names)(start, [*counted(0), ask("p", ["item"], counted(2))])
        self.assertEqual(len(dearest(one, {"f": 3, "same": 5, "p": -2})[3][1]), 4096)


class RoundTest(Case):
    def test_all_ways(self):
        chance = random.Random(82)
        seen = 0
        for _ in range(3000):
            lists, depths = graph(chance)
            outs = [{other: chance.randrange(-4, 5) for other in behind} for behind in lists]
            firsts = [number for number, depth in enumerate(depths) if depth == 0]
            told, rounds = dearest_round(outs, firsts), simple_rounds(lists)
            if not rounds:
                self.assertIsNone(told)
                continue
            seen += 1
            above, below, surplus, around = told
            means = [self.mean(outs, row) for row in rounds]
            self.assertEqual((Fraction(above, below), below), (max(means), max(means).denominator))
            self.assertEqual((self.mean(outs, around), len(set(around))), (max(means), len(around)))
            self.assertEqual(surplus, self.surplus(outs, firsts, above, below))
        self.assertGreater(seen, 500)

    def mean(self, outs, row):
        return Fraction(sum(outs[one][other] for one, other in zip(row, row[1:] + row[:1])), len(row))

    def surplus(self, outs, firsts, above, below):
        best = dict.fromkeys(firsts, 0)
        for _ in range(len(outs) + 1):
            for number, behind in enumerate(outs):
                for other, cost in behind.items() if number in best else []:
                    total = best[number] + below * cost - above
                    best[other] = max(total, best.get(other, total))
        return max([0, *best.values()])


class WeightTest(Case):
    def test_wrong(self):
        bad = [None, True, False, 1.0, "1", [], (), Yes(), Raises(), {}]
        for work in (turn_costs, dearest):
            for thing in bad:
                for weights in ({"t": thing}, {"t": 1, "same": thing, "x": Raises()}, {Text_("f"): thing}):
                    error = self.raised(BadWeight, work, FORGETS, weights)
                    self.assertEqual(error.name, list(weights)[0 if weights[list(weights)[0]] is thing else 1])
            keys = ["x", "a", "item", "T", "", None, 1, 10 ** 30, True, 1.5, ("t",), b"t", frozenset("t"), "tt", Yes(), len]
            for key in keys:
                self.assertIs(self.raised(BadWeight, work, FORGETS, {"t": 1, key: 1, "zz": None}).name, key)
                self.assertIs(self.raised(BadWeight, work, ROUND, {key: 1, "zz": None}).name, key)

    def test_all_names(self):
        self.assertEqual(turn_costs(ROUND, {Text_("f"): Whole(7), "g": 0, "s": 1, "p": 0, "t": -1, "d": 3, "same": 0}), (-1, 7))

    def test_later_changes(self):
        weights = {"f": 2}
        told = dearest(ROUND, weights)
        told[3][1][0].append(True)
        told[3][0].clear()
        weights["f"] = 5
        self.assertEqual(dearest(ROUND, {"f": 2})[3][0], [[]])


class HoistedTest(Case):
    def check(self, one, wanted):
        told = hoisted(one)
        self.assertEqual(told, wanted)
        self.assertEqual(hoisted(loop=told), told)

    def test_constants_and_registers(self):
        one = loop([put("x", "b"), put("y", "a")], [call("u", "f", "a"), call("v", "g", "x", "b"), call("w", "f", "y"), put("y", "item"),
                                                    do("t", "u")], [call("u", "f", "a"), do("t", "u")])
        self.check(one, loop([put("x", "b"), put("y", "a"), call("la", "f", "a"), call("lb", "g", "x", "b")], [
            put("u", "la"), put("v", "lb"), call("w", "f", "y"), put("y", "item"), do("t", "u")], [call("u", "f", "a"), do("t", "u")]))
        self.assertIs(alike(hoisted(one), loop(*[hoisted(one).section(word) for word in ("start", "turn", "end")])), True)

    def test_one_register_for_each_unlike_call(self):
        one = loop([], [call("u", "f", "a"), ask("p", ["item"], [call("v", "f", "a"), call("u", "s", "a", "b")], [
            call("u", "s", "b", "a"), call("v", "g", "a", "b"), call("v", "s", "a", "b")]), call("u", "f", "u")])
        self.check(one, loop([call("la", "f", "a"), call("lb", "s", "a", "b"), call("lc", "s", "b", "a"), call("ld", "g", "a", "b")], [
            put("u", "la"), ask("p", ["item"], [put("v", "la"), put("u", "lb")], [
                put("u", "lc"), put("v", "ld"), put("v", "lb")]), call("u", "f", "u")]))

    def test_what_the_turn_puts(self):
        for statement in (put("x", "item"), call("x", "f", "item"), ("do", "x", "d"), ask("p", ["item"], [], [put("x", "a")]),
                          same("a", "a", [], [put("x", "a")])):
            one = loop([put("x", "a")], [call("u", "f", "x"), statement])
            self.check(one, one)
        one = loop([put("x", "a")], [call("u", "f", "x"), call("x", "f", "a")], [put("x", "b")])
        self.check(one, loop([put("x", "a"), call("la", "f", "a")], [call("u", "f", "x"), put("x", "la")], [put("x", "b")]))

    def test_registers_that_do_not_last(self):
        one = loop([ask("p", ["a"], [put("x", "a")])], [put("x", "a"), call("u", "f", "x"), call("v", "g", "a", "item")])
        self.check(one, one)
        one = loop([ask("p", ["a"], [put("x", "a")], [put("x", "b")])], [call("u", "f", "x")])
        self.check(one, loop([*one.section("start"), call("la", "f", "x")], [put("u", "la")]))

    def test_behind_all_else(self):
        one = loop([put("x", "a"), do("t", "x"), put("x", "b")], [call("u", "f", "x"), do("t", "u")])
        self.check(one, loop([put("x", "a"), do("t", "x"), put("x", "b"), call("la", "f", "x")], [put("u", "la"), do("t", "u")]))

    def test_names_of_registers(self):
        one = loop([put("la", "a")], [call("lb", "f", "la"), call("ld", "f", "b")])
        self.check(one, loop([put("la", "a"), call("lc", "f", "la"), call("le", "f", "b")], [put("lb", "lc"), put("ld", "le")]))
        names = Names(["la"], {"lb": 1}, {"lc": 1}, {"ld": 0})
        one = Loop(names, [], [call("x", "lb", "la")], [])
        self.check(one, Loop(names, [call("le", "lb", "la")], [put("x", "le")], []))

    def test_fifty(self):
        registers = ["r" + letter for letter in "abcdefg"]
        rows = [("g", one, other) for one in registers for other in registers] + [("f", "a")]
        one = loop([put(name, "a") for name in registers], [ask("p", ["item"], [("call", "x", *row) for row in rows[at:at + 10]])
                                                            for at in range(0, 50, 10)])
        told = hoisted(one)
        self.assertEqual(told.section("start")[7:], [("call", name, *row) for name, row in zip(
            ["l" + letter for letter in "abcdefghijklmnopqrstuvwxyz"] + ["m" + letter for letter in "abcdefghijklmnopqrstuvwxyz"], rows)])
        self.assertEqual(hoisted(told), told)

    def test_nothing_forgets_here(self):
        self.check(FORGETS, loop([call("la", "f", "a")], [put("v", "la"), call("v", "f", "v")]))

    def test_within_a_branch_that_leaves(self):
        one = loop([], [ask("p", ["item"], [call("x", "f", "a"), LEAVE], [call("x", "f", "b")])])
        self.check(one, loop([call("la", "f", "a"), call("lb", "f", "b")], [
            ask("p", ["item"], [put("x", "la"), LEAVE], [put("x", "lb")])]))

    def test_the_same_deeds(self):
        chance = random.Random(83)
        changed = 0
        for _ in range(200):
            names = chance.choice(drawn.NAMES)
            one = drawn.Drawing(chance, names, ("x", "y", "z"), 5).loop()
            told = hoisted(one)
            changed += not told == one
            self.assertEqual(hoisted(told), told)
            for _ in range(8):
                world = drawn.world(chance, names, chance.randrange(1, 4))
                if world is not None:
                    items = [chance.randrange(world.size) for _ in range(chance.randrange(5))]
                    results = [[chance.randrange(world.size) for _ in range(5)] for _ in range(len(items) + 2)]
                    self.assertEqual(*[plain_deeds(row, world, items, results)[0] for row in (one, told)])
        self.assertGreater(changed, 30)


class Whole(int):
    """An integer of a class of its own."""


class Text_(str):
    """A text of a class of its own."""


def word_at(one, place):
    statement = one.section(place[0])[place[1]]
    for branch, index in zip(place[2::2], place[3::2]):
        statement = statement[2 if branch == "then" else 3][index]
    if statement[0] == "if":
        return "if", statement[1][0] if statement[1][0] == "same" else statement[1][1]
    return statement[0], statement[2] if statement[0] in ("call", "do") else None


if __name__ == "__main__":
    import unittest
    unittest.main()
