"""Points [8] to [16], [50] and [51]: two loops side by side, rule by rule."""

import unittest

from unknowncalls.errors import Forgotten, Parted, UnlikeNames
from unknowncalls.loops import Loop
from unknowncalls.names import Names
from unknowncalls.running import deeds
from unknowncalls.walks import alike, forgetting, parting, table
from unknowncalls.worlds import World

NAMES = Names(["a", "b"], {"f": 1, "g": 2, "sw": 2, "se": 1}, {"p": 1, "bo": 2, "tw": 2, "le": 2},
              {"tell": 1, "get": 0, "say": 2}, {"sw": "swaps", "se": "settles", "bo": "both", "le": "order"})
KNOWN = Names(["a", "b"], {"f": 1, "g": 2}, {"p": 1}, {"tell": 1, "get": 0}, apart=[("a", "b")])
PLAIN = Names(["a"], {"f": 1}, {}, {"tell": 1})


def loop(start=(), turn=(), end=(), names=NAMES):
    return Loop(names, start, turn, end)


def tell(source):
    return ("do", None, "tell", source)


def same(one, other, then, others=()):
    return ("if", ("same", one, other), then, others)


def ask(test, sources, then=(), others=()):
    return ("if", ("ask", test, *sources), then, others)


class Case(unittest.TestCase):
    def is_alike(self, one, other):
        for pair in ((one, other), (other, one)):
            self.assertIs(alike(*pair), True)
            self.assertIsNone(parting(*pair))
            self.assertIsNone(forgetting(*pair))

    def is_parted(self, one, other, items):
        for first, second in ((one, other), (other, one)):
            self.assertIs(alike(first, second), False)
            with self.assertRaises(Parted):
                table(first, second)
            told = parting(first, second)
            self.assertIs(told.__class__, tuple)
            world, things, results = told
            self.assertIsInstance(world, World)
            self.assertEqual([len(things), len(results)], [items, items + 2])
            self.assertNotEqual(deeds(first, world, things, results), deeds(second, world, things, results))

    def forgets(self, one, other, side, place, answers):
        for work in (alike, parting, table):
            with self.assertRaises(Forgotten) as caught:
                work(one, other)
            error = caught.exception
            self.assertIs(error.__class__, Forgotten)
            self.assertEqual((error.side, error.place, error.answers), (side, place, answers))
        self.assertEqual(forgetting(one, other), (side, place, answers))


class ExampleTest(Case):
    def loops(self, keeps=True):
        kept = [("put", "k", "item")] if keeps else []
        one = loop([("put", "k", "a"), ("call", "v", "f", "a")],
                   [same("item", "k", [], [("call", "v", "f", "item"), *kept]), tell("v")], names=PLAIN)
        return one, loop([], [("call", "v", "f", "item"), tell("v")], names=PLAIN)

    def test_alike(self):
        one, two = self.loops()
        self.assertIs(alike(one, two), True)
        pictures = table(one, two)
        self.assertEqual(len(pictures), 3)
        first = ((False, False), (((1, "k"), (0, "a")), ((1, "v"),)), (2, 0), (("f", (0,), 1),), (), (), (), (), ())
        second = ((False, False), (((1, "k"),), ((1, "v"),), ((0, "a"),)), (2, 0, 2), (("f", (0,), 1),), (),
                  ((0, 2),), (), (), ())
        third = (*second[:5], (), *second[6:])
        self.assertEqual({first, second, third}, set(pictures))

    def test_not_kept(self):
        one, two = self.loops(False)
        world, items, results = parting(one, two)
        self.assertEqual(len(items), 2)
        self.assertNotEqual(deeds(one, world, items, results), deeds(two, world, items, results))
        self.is_parted(one, two, 2)

    def test_forgets(self):
        one = loop([], [("call", "v", "f", "a"), ("call", "v", "f", "v"), tell("v")], names=PLAIN)
        self.forgets(one, one, 1, ("turn", 0), [([], []), ([], []), ([], [])])
        silent = loop([], one.section("turn")[:2], names=PLAIN)
        self.forgets(loop(names=PLAIN), silent, 2, ("turn", 0), [([], []), ([], []), ([], [])])

    def test_does_not_forget(self):
        one = loop([], [("call", "v", "f", "a"), tell("v")], names=PLAIN)
        self.is_alike(one, one)
        self.assertEqual(table(one, one), [((False, False), (((0, "a"),),), (2,), (), (), (), (), (), ())])


class AlikeTest(Case):
    """Loops that are alike by one rule of [10] to [12]."""

    def test_equal_by_same(self):
        one = loop([("put", "k", "a")], [same("item", "k", [tell("item")]), ("put", "k", "item")])
        two = loop([("put", "k", "a")], [same("k", "item", [tell("k")]), ("put", "k", "item")])
        self.is_alike(one, two)
        self.is_parted(one, loop([("put", "k", "a")], [tell("item"), ("put", "k", "item")]), 1)

    def test_unlike_by_same(self):
        one = loop([], [same("item", "a", [], [same("a", "item", [tell("a")], [tell("item")])])])
        self.is_alike(one, loop([], [same("item", "a", [], [tell("item")])]))

    def test_equal_calls(self):
        one = loop([("put", "k", "a"), ("call", "v", "f", "a")],
                   [same("item", "k", [tell("v")], [("put", "k", "item"), ("call", "v", "f", "item")])])
        two = loop([("put", "k", "a")], [same("item", "k", [("call", "v", "f", "item"), tell("v")], [("put", "k", "item")])])
        self.is_alike(one, two)

    def test_results_are_joined(self):
        one = loop([], [("call", "x", "f", "a"), ("call", "y", "f", "item"), same("item", "a", [tell("x")], [tell("y")])])
        self.is_alike(one, loop([], [("call", "y", "f", "item"), tell("y")]))

    def test_swaps(self):
        one = loop([], [("call", "x", "sw", "a", "item"), tell("x")])
        self.is_alike(one, loop([], [("call", "x", "sw", "item", "a"), tell("x")]))
        one = loop([], [("call", "x", "g", "a", "item"), tell("x")])
        self.is_parted(one, loop([], [("call", "x", "g", "item", "a"), tell("x")]), 1)

    def test_settles(self):
        one = loop([], [("call", "x", "se", "item"), ("call", "x", "se", "x"), tell("x")])
        self.is_alike(one, loop([], [("call", "x", "se", "item"), tell("x")]))
        one = loop([], [("call", "x", "f", "item"), ("call", "x", "f", "x"), tell("x")])
        self.is_parted(one, loop([], [("call", "x", "f", "item"), tell("x")]), 1)

    def test_settles_of_what_is_kept(self):
        start = [("call", "x", "se", "a")]
        one = loop(start, [("call", "y", "se", "x"), tell("y")])
        self.is_alike(one, loop(start, [tell("x")]))

    def test_both(self):
        one = loop([], [ask("bo", ["item", "a"], [tell("item")])])
        self.is_alike(one, loop([], [ask("bo", ["a", "item"], [tell("item")])]))
        one = loop([], [ask("tw", ["item", "a"], [tell("item")])])
        self.is_parted(one, loop([], [ask("tw", ["a", "item"], [tell("item")])]), 1)

    def test_a_test_turned_about(self):
        one = loop([], [ask("p", ["item"], [tell("a")], [tell("b")])])
        two = loop([], [ask("p", ["item"]), ask("p", ["item"], [], [tell("b")]), ask("p", ["item"], [tell("a")])])
        self.is_alike(one, two)

    def test_order(self):
        one = loop([], [ask("le", ["a", "item"], [ask("le", ["item", "a"], [tell("b")])], [tell("item")])])
        self.is_alike(one, loop([], [ask("le", ["a", "item"], [], [tell("item")])]))

    def test_order_passes_on(self):
        inner = ask("le", ["item", "b"], [ask("le", ["a", "b"], [tell("a")], [tell("b")])])
        one = loop([], [ask("le", ["a", "item"], [inner])])
        two = loop([], [ask("le", ["a", "item"], [ask("le", ["item", "b"], [tell("a")])])])
        self.is_alike(one, two)
        inner = ask("le", ["item", "b"], [], [ask("le", ["a", "b"], [tell("a")], [tell("b")])])
        self.is_parted(loop([], [ask("le", ["a", "item"], [inner])]),
                       loop([], [ask("le", ["a", "item"], [ask("le", ["item", "b"], [], [tell("a")])])]), 1)

    def test_order_joins(self):
        one = loop([], [ask("le", ["a", "item"], [], [ask("le", ["item", "a"], [], [tell("a")])])])
        self.is_alike(one, loop([], [same("a", "item", [tell("item")])]))

    def test_order_joins_with_unlike_ones_between(self):
        start = [("do", name, "get") for name in "xyz"]
        ties = [ask("le", ["x", "y"], [], [ask("le", ["y", "z"], [], [ask("le", ["z", "x"], [], [same("x", "z", [tell("y")], [tell("a")])])])])]
        told = [ask("le", ["x", "y"], [], [ask("le", ["y", "z"], [], [ask("le", ["z", "x"], [], [tell("x")])])])]
        self.is_alike(loop(start, [], ties), loop(start, [], told))

    def test_not_behind_and_unlike_is_ahead(self):
        one = loop([], [same("a", "item", [], [ask("le", ["a", "item"], [tell("a")], [tell("b")])])])
        two = loop([], [same("a", "item", [], [ask("le", ["item", "a"], [tell("b")], [tell("a")])])])
        self.is_alike(one, two)
        one = loop([], [ask("le", ["a", "item"], [tell("a")], [tell("b")])])
        self.is_parted(one, loop([], [ask("le", ["item", "a"], [tell("b")], [tell("a")])]), 1)

    def test_results_of_deeds_are_those_of_the_other(self):
        one = loop([], [("do", "x", "get"), ("do", "y", "get"), ("do", None, "say", "x", "y")])
        two = loop([], [("do", "y", "get"), ("do", "x", "get"), ("do", None, "say", "y", "x")])
        self.is_alike(one, two)
        two = loop([], [("do", "y", "get"), ("do", "x", "get"), ("do", None, "say", "x", "y")])
        self.is_parted(one, two, 1)

    def shared(self, *branches):
        """Calls beside an item that goes are kept; then what both gave is told, or the other one."""
        start = [("do", "x", "get"), ("do", "y", "get"), ("put", "u", "a"), ("put", "v", "a")]
        return loop(start, [
            ask("p", ["item"], [same("x", "y", branches)]), ("call", "u", "g", "x", "item"), ("call", "v", "g", "y", "item")])

    def test_shares(self):
        one, two = self.shared(tell("u")), self.shared(tell("v"))
        self.is_alike(one, two)
        start = [("do", "x", "get"), ("do", "y", "get"), ("put", "u", "a"), ("put", "v", "a")]
        turn = [ask("p", ["item"], [same("x", "y", [tell("u")])]),
                ("call", "u", "g", "x", "item"), ("call", "v", "g", "item", "y")]
        other = [ask("p", ["item"], [same("x", "y", [tell("v")])]), *turn[1:]]
        self.is_parted(loop(start, turn), loop(start, other), 2)

    def test_shares_of_one_that_swaps(self):
        start = [("do", "x", "get"), ("do", "y", "get"), ("put", "u", "a"), ("put", "v", "a")]
        calls = [("call", "u", "sw", "x", "item"), ("call", "v", "sw", "item", "y")]
        one = loop(start, [ask("p", ["item"], [same("x", "y", [tell("u")])]), *calls])
        self.is_alike(one, loop(start, [ask("p", ["item"], [same("x", "y", [tell("v")])]), *calls]))

    def test_what_cannot_be_equal_stays_unlike(self):
        start = [("do", "x", "get"), ("do", "y", "get"), ("put", "z", "a")]
        turn = [same("z", "b", [same("x", "y", [tell("a")], [tell("b")])]), ("put", "z", "a"),
                ("call", "u", "g", "x", "item"), ("call", "v", "g", "y", "item"),
                same("u", "a", [same("v", "b", [("put", "z", "b")])])]
        told = [same("z", "b", [tell("b")]), *turn[1:]]
        self.is_alike(loop(start, turn, [], KNOWN), loop(start, told, [], KNOWN))

    def test_leaves(self):
        one = loop([("put", "k", "a")], [same("item", "a", [("leave",)]), tell("item")], [tell("k")])
        two = loop([("put", "k", "a")], [same("item", "a", [("put", "k", "item"), ("leave",)], [tell("item")])], [tell("k")])
        self.is_alike(one, two)
        self.assertEqual({row[0] for row in table(one, two)}, {(False, False), (True, True)})
        three = loop([("put", "k", "a")], [same("item", "a", [], [tell("item")])], [tell("k")])
        self.is_parted(one, three, 2)

    def test_one_that_has_left_does_nothing_until_its_end(self):
        one = loop([("put", "k", "a")], [("put", "k", "item"), ("leave",)], [tell("k")])
        two = loop([("put", "k", "a"), ("put", "m", "a")],
                   [same("m", "a", [("put", "k", "item"), ("put", "m", "b")])], [tell("k")])
        start = [("put", "k", "a"), ("put", "m", "a")]
        other = Loop(KNOWN, start, two.section("turn"), [tell("k")])
        self.is_alike(loop(one.section("start"), one.section("turn"), one.section("end"), KNOWN), other)
        self.assertIn((True, False), {row[0] for row in table(
            loop(one.section("start"), one.section("turn"), one.section("end"), KNOWN), other)})
        self.is_parted(one, two, 2)

    def test_facts(self):
        names = Names(["a", "b", "c"], {"f": 1, "se": 1}, {"p": 1, "le": 2}, {"tell": 1}, {"se": "settles", "le": "order"},
                      [("f", ["a"], "b"), ("se", ["b"], "c"), ("p", ["c"], True), ("le", ["a", "c"], True)], [("b", "c")])
        told = loop([], [tell("b"), tell("c"), tell("a")], [], names)
        turn = [("call", "x", "f", "a"), tell("x"), ("call", "y", "se", "c"), tell("y"),
                ask("p", ["c"], [ask("le", ["c", "a"], [], [same("b", "c", [], [same("a", "c", [], [tell("a")])])])])]
        self.is_alike(loop([], turn, [], names), told)


class ForgetTest(Case):
    def test_at_a_call_of_one_that_swaps(self):
        start = [("call", "v", "sw", "a", "b"), ("call", "v", "f", "v")]
        one = loop(start, [], [("call", "v", "sw", "b", "a")])
        self.forgets(loop(), one, 2, ("end", 0), [([], []), ([], [])])
        start = [("call", "v", "g", "a", "b"), ("call", "v", "f", "v")]
        self.is_alike(loop(), loop(start, [], [("call", "v", "g", "b", "a")]))

    def test_the_fewest_sections(self):
        one = loop([], [("call", "w", "f", "b"), ask("p", ["w"])], [("call", "x", "f", "b")])
        told = forgetting(one, one)
        self.assertEqual(told[:2], (1, ("end", 0)))
        self.assertEqual(len(told[2]), 3)
        self.assertEqual(told[2][1][0], told[2][1][1])

    def test_in_the_turn_of_two(self):
        one = loop([], [("do", None, "get")])
        two = loop([], [("do", None, "get"), ask("p", ["a"]), ("call", "w", "f", "a"), ask("p", ["w"])])
        error = forgetting(one, two)
        self.assertEqual(error[:2], (2, ("turn", 2)))
        self.assertEqual(error[2][0], ([], []))
        self.assertEqual([len(pair[0]) for pair in error[2]], [0, 0, 0])
        self.assertEqual([len(pair[1]) for pair in error[2]], [0, 2, 1])

    def test_at_an_answer_that_joins_a_gone_result(self):
        start = [("do", "x", "get"), ("do", "y", "get"), ("call", "u", "f", "x"), ask("p", ["u"]),
                 ("call", "v", "f", "y"), ask("p", ["v"]), ("put", "u", "a"), ("put", "v", "a")]
        one = loop(start, [], [same("x", "y", [tell("x")])])
        told = forgetting(one, loop())
        self.assertEqual(told[:2], (1, ("end", 0)))
        self.assertEqual((len(told[2]), told[2][1]), (2, ([True], [])))
        self.assertEqual(told[2][0][0][0], told[2][0][0][1])

    def test_results_that_nothing_hangs_on_are_not_forgotten(self):
        start = [("do", "x", "get"), ("do", "y", "get"), ("call", "u", "f", "x"), ("call", "v", "f", "y"),
                 ("put", "u", "a"), ("put", "v", "a")]
        one = loop(start, [("call", "w", "f", "x"), tell("w")], [same("x", "y", [tell("x")])])
        self.is_alike(one, one)

    def test_a_gone_result_of_two_calls(self):
        start = [("do", "x", "get"), ("do", "y", "get"), ("call", "u", "f", "x"), ("call", "v", "f", "y")]
        kept = [("put", "u", "a"), ("put", "v", "a")]
        one = loop([*start, same("u", "v", [], []), *kept], [("call", "w", "f", "x"), tell("w")])
        told = forgetting(one, one)
        self.assertEqual(told, (1, ("turn", 0), [([True], [True]), ([], [])]))

    def test_a_gone_result_of_another_that_settles(self):
        names = Names(["a"], {"se": 1, "k": 1}, {}, {"tell": 1, "get": 0}, {"se": "settles", "k": "settles"})
        start = [("do", "x", "get"), ("call", "u", "se", "x"), ("call", "v", "k", "a")]
        again = [("call", "w", "se", "x"), tell("w")]
        one = loop([*start, same("u", "v", [], []), ("put", "u", "a"), ("put", "v", "a")], again, [], names)
        self.assertEqual(forgetting(one, one), (1, ("turn", 0), [([True], [True]), ([], [])]))
        one = loop([*start, ("put", "u", "a"), ("put", "v", "a")], again, [], names)
        self.is_alike(one, one)

    def squeezing(self, ahead, calls):
        """x <= h <= y is known of a result that goes; then x and y are asked for."""
        start = [("do", "x", "get"), ("do", "y", "get"), ("do", "h", "get"), *calls,
                 ask("le", ["h", "x"]), ask("le", ["y", "h"]), ("put", "h", "a")]
        return loop(start, [("put", "x", "x")] if ahead else [], [same("x", "y", [tell("x")])])

    def test_a_squeezed_pair(self):
        one = self.squeezing(False, [("call", "k", "f", "h"), ("put", "k", "a")])
        told = forgetting(one, loop())
        self.assertEqual(told, (1, ("end", 0), [([False, False], []), ([True], [])]))
        picture = ((False, False), (((1, "x"),), ((1, "y"),), ((1, "h"), (1, "k"), (0, "a")), ((0, "b"),)), (1, 1, 2, 2),
                   (), (), (), ((0, 1, False),), (), ((0, 1),))
        same_start = loop(one.section("start"))
        self.assertIn(picture, table(same_start, loop([("do", None, "get")] * 3)))
        self.is_alike(self.squeezing(False, []), self.squeezing(False, []))

    def test_a_pair_squeezed_by_one_that_settles(self):
        start = [("do", "x", "get"), ("do", "y", "get"), ("call", "h", "se", "a"), ask("le", ["h", "x"]), ask("le", ["y", "h"]),
                 ("put", "h", "a")]
        one = loop(start, [], [same("x", "y", [tell("x")])])
        self.assertEqual(forgetting(one, loop()), (1, ("end", 0), [([False, False], []), ([True], [])]))

    def test_a_pair_around_a_squeezed_one(self):
        start = [("do", "x", "get"), ("do", "y", "get"), ("do", "h", "get"), ("do", "z", "get"), ("do", "w", "get"), ("call", "k", "f", "h"),
                 ("put", "k", "a"), ask("le", ["h", "x"]), ask("le", ["y", "h"]), ask("le", ["x", "z"]), ask("le", ["w", "y"]),
                 ("put", "h", "a")]
        turn = [("put", "x", "a"), ("put", "y", "a")]
        one = loop(start, turn, [same("x", "a", [same("z", "w", [tell("z")])])])
        kept = [told for told in self.all_pictures(one) if told[8]]
        self.assertTrue(any((("z", "w") in self.named(told)) for told in kept))
        self.assertIsNotNone(forgetting(one, loop()))

    def all_pictures(self, one):
        from unknowncalls.runs import Pair
        from unknowncalls.walking import Walk
        walk = Walk(Pair(one, loop([("do", None, "get")] * 5)))
        walk.find_parted()
        return walk.pictures()

    def named(self, picture):
        return [(picture[1][low][0][1], picture[1][high][0][1]) for low, high in picture[8]]

    def test_a_run_that_parts_may_go_on_and_forget(self):
        one = loop([tell("a")], [("call", "v", "f", "a"), ("call", "v", "f", "v")])
        self.assertEqual(forgetting(one, loop()), (1, ("turn", 0), [([], []), ([], []), ([], [])]))
        self.is_parted_only(one, loop(), 0)

    def is_parted_only(self, one, other, items):
        self.assertIs(alike(one, other), False)
        self.assertEqual(len(parting(one, other)[1]), items)

    def test_parting_goes_ahead_of_forgetting(self):
        turn = [("call", "v", "f", "a"), ("call", "w", "f", "v")]
        one = loop([], turn, [tell("a")])
        two = loop([], turn, [tell("b")])
        self.is_parted_only(one, two, 0)
        slow = [("put", "k", "a"), ("put", "m", "a"), ("put", "n", "a")]
        step = [("put", "n", "m"), ("put", "m", "k"), ("put", "k", "item")]
        inner = [same("item", "a", [("call", "v", "f", "b"), ("call", "w", "f", "v")])]
        one = loop(slow, step + inner, [tell("n")])
        two = loop(slow, step + inner, [tell("a")])
        self.assertEqual(len(forgetting(one, two)[2]), 3)
        self.is_parted_only(one, two, 3)

    def test_what_follows_a_forgetting_is_not_looked_at(self):
        one = loop([], [("call", "v", "f", "a"), ("call", "v", "f", "v"), ask("p", ["item"])], [("call", "v", "f", "a")])
        self.assertEqual(forgetting(one, loop()), (1, ("end", 0), [([], []), ([True], []), ([], [])]))


class PartedTest(Case):
    def test_the_start(self):
        self.is_parted(loop([tell("a")]), loop([tell("b")]), 0)
        self.is_parted(loop([tell("a")]), loop(), 0)
        self.is_parted(loop([tell("a"), tell("a")]), loop([tell("a")]), 0)
        self.is_parted(loop([tell("a")]), loop([("do", None, "get")]), 0)

    def test_the_end(self):
        self.is_parted(loop([], [], [tell("a")]), loop([], [], [tell("b")]), 0)
        one = loop([("put", "k", "a")], [("put", "k", "item")], [tell("k")])
        self.is_parted(one, loop([], [], [tell("a")]), 1)

    def test_section_by_section(self):
        self.is_parted(loop([tell("a")]), loop([], [], [tell("a")]), 0)

    def test_values_known_equal_behind_the_section(self):
        one = loop([], [tell("item"), same("item", "a", [], [("leave",)])])
        two = loop([], [same("item", "a", [tell("a")], [tell("item"), ("leave",)])])
        self.is_alike(one, two)

    def test_the_least_list(self):
        registers = ["k", "l", "m", "n"]
        start = [("put", name, "a") for name in registers]
        turn = [("put", name, other) for name, other in zip(registers, registers[1:])] + [("put", "n", "item")]
        for at, name in enumerate(registers):
            one, two = loop(start, turn, [tell(name)]), loop(start, turn, [tell("a")])
            self.is_parted(one, two, 4 - at)

    def test_results(self):
        one = loop([("do", "x", "get")], [("do", "y", "get"), tell("x")])
        two = loop([("do", "x", "get")], [("do", "y", "get"), tell("y")])
        self.is_parted(one, two, 1)
        world, items, results = parting(one, two)
        self.assertEqual([len(row) for row in results], [1, 2, 0])
        self.assertNotEqual(results[0][0], results[1][0])

    def test_results_are_told_for_all_sections(self):
        one = loop([("do", "x", "get")], [("do", "x", "get")], [tell("x")])
        two = loop([("do", "x", "get")], [("do", "x", "get")], [tell("x"), tell("x")])
        world, items, results = parting(one, two)
        self.assertEqual((items, [len(row) for row in results]), ([], [1, 2]))


class PictureTest(Case):
    def one_picture(self, start, names=NAMES):
        one = loop(start, names=names)
        told = table(one, loop(one.section("start"), names=names))
        self.assertIs(told.__class__, list)
        return told

    def test_groups(self):
        one = loop([("do", "y", "get"), ("put", "x", "a"), ("put", "z", "y")])
        two = loop([("do", "m", "get"), ("put", "k", "b"), ("call", "z", "f", "b")])
        self.assertEqual(table(one, two), [(
            (False, False), (((1, "y"), (1, "z"), (2, "m")), ((1, "x"), (0, "a")), ((2, "k"), (0, "b")), ((2, "z"),)),
            (0, 2, 2, 0), (("f", (2,), 3),), (), (), (), (), ())])

    def test_marks(self):
        names = Names([], {"f": 1}, {"p": 1, "le": 2}, {"get": 0}, {"le": "order"})
        start = [("do", name, "get") for name in "uvwxyz"]
        told = table(loop([*start, ("call", "k", "f", "u"), ("put", "k", "u"), ask("le", ["v", "v"]), ask("p", ["w"]),
                           same("y", "x", [])], names=names), loop([*start], names=names))
        groups = (((1, "u"), (1, "k"), (2, "u")), ((1, "v"), (2, "v")), ((1, "w"), (2, "w")), ((1, "x"), (2, "x")),
                  ((1, "y"), (2, "y")), ((1, "z"), (2, "z")))
        self.assertIn(((False, False), groups, (2, 1, 2, 2, 2, 0), (), (("p", (2,), True),), ((3, 4),), (), (), ()), told)
        joined = groups[:3] + (((1, "x"), (1, "y"), (2, "x"), (2, "y")), groups[5])
        self.assertIn(((False, False), joined, (2, 1, 2, 0, 0), (), (("p", (2,), False),), (), (), (), ()), told)
        self.assertEqual(len(told), 4)

    def test_calls_and_answers_with_the_lesser_number_first(self):
        start = [("do", "x", "get"), ("call", "y", "sw", "b", "x"), ("call", "z", "g", "b", "x"), ask("bo", ["b", "x"]),
                 ask("tw", ["b", "x"])]
        told = table(loop(start), loop([("do", None, "get")]))
        groups = (((1, "x"),), ((1, "y"),), ((1, "z"),), ((0, "a"),), ((0, "b"),))
        self.assertEqual(len(told), 4)
        self.assertIn(((False, False), groups, (2, 0, 0, 2, 2), (("g", (4, 0), 2), ("sw", (0, 4), 1)),
                       (("bo", (0, 4), True), ("tw", (4, 0), False)), (), (), (), ()), told)

    def test_what_settles_is_known_of_its_result(self):
        self.assertEqual(self.one_picture([("call", "x", "se", "a")]), [(
            (False, False), (((1, "x"), (2, "x")), ((0, "a"),), ((0, "b"),)), (0, 2, 2),
            (("se", (0,), 0), ("se", (1,), 0)), (), (), (), (), ())])

    def test_a_gone_result(self):
        told = self.one_picture([("call", "x", "f", "a"), ("call", "y", "f", "x"), ("put", "x", "a"), ("put", "y", "a")])
        self.assertEqual(told, [(
            (False, False), (((1, "x"), (1, "y"), (2, "x"), (2, "y"), (0, "a")), ((0, "b"),)), (2, 2),
            (("f", (0,), -1),), (), (), (), (), ())])

    def test_order(self):
        names = Names([], {}, {"le": 2}, {"get": 0}, {"le": "order"})
        start = [("do", name, "get") for name in "xyz"]
        told = table(loop([*start, ask("le", ["x", "y"], [], [ask("le", ["z", "y"])])], names=names),
                     loop([("do", None, "get")] * 3, names=names))
        groups = (((1, "x"),), ((1, "y"),), ((1, "z"),))
        self.assertEqual(set(told), {
            ((False, False), groups, (1, 1, 0), (), (), ((0, 1),), ((0, 1, True),), (), ()),
            ((False, False), groups, (1, 1, 1), (), (), ((0, 2), (1, 2)), ((1, 0, False), (2, 0, True), (2, 1, True)), (), ()),
            ((False, False), groups, (1, 1, 1), (), (), (), ((1, 0, False), (1, 2, False)), (), ()),
        })

    def test_values_that_become_unlike_are_made_of(self):
        names = Names(["a"], {}, {"le": 2}, {"get": 0}, {"le": "order"})
        start = [("do", name, "get") for name in "xyhk"]
        asked = [ask("le", pair) for pair in ("hx", "yh", "kx", "yk")]
        one = loop([*start, *asked, same("h", "k", []), ("put", "h", "a"), ("put", "k", "a")], names=names)
        told = self.behind_start(one, loop([("do", None, "get")] * 4, names=names))
        groups = (((1, "x"),), ((1, "y"),), ((1, "h"), (1, "k"), (0, "a")))
        no = [row for row in told if row[2][:2] == (2, 2)]
        self.assertEqual(no, [((False, False), groups, (2, 2, 2), (), (), ((0, 1),), ((0, 1, True),), (), ())])
        one = loop([*start, *asked, ("put", "h", "a"), ("put", "k", "a")], names=names)
        self.assertIn(((False, False), groups, (1, 1, 2), (), (), (), ((0, 1, False),), (), ()),
                      self.behind_start(one, loop([("do", None, "get")] * 4, names=names)))

    def behind_start(self, one, other):
        told = table(one, other)
        self.assertEqual(len(set(told)), len(told))
        return told

    def test_shares(self):
        names = Names([], {"g": 2}, {}, {"get": 0})
        start = [("do", name, "get") for name in "xyuvw"]
        turn = [("call", "u", "g", "x", "item"), ("call", "v", "g", "y", "item"), ("call", "w", "g", "item", "y")]
        told = table(loop(start, turn, names=names), loop([("do", None, "get")] * 5, names=names))
        groups = (((1, "x"),), ((1, "y"),), ((1, "u"),), ((1, "v"),), ((1, "w"),))
        self.assertEqual(told, [
            ((False, False), groups, (0, 0, 0, 0, 0), (), (), (), (), (), ()),
            ((False, False), groups, (2, 2, 0, 0, 0), (), (), (), (), (((0, 2), (1, 3)),), ()),
        ])

    def test_both_have_left(self):
        one = loop([], [("leave",)])
        told = table(one, one)
        self.assertEqual([row[0] for row in told], [(False, False), (True, True)])
        self.assertEqual([row[0] for row in table(one, loop())], [(False, False), (True, False)])

    def test_facts_and_pairs(self):
        names = Names(["a", "b"], {"f": 1}, {"p": 1}, {}, facts=[("f", ["a"], "b"), ("p", ["a"], True)], apart=[("b", "a")])
        one = Loop(names, [], [], [])
        self.assertEqual(table(one, one), [(
            (False, False), (((0, "a"),), ((0, "b"),)), (2, 2), (("f", (0,), 1),), (("p", (0,), True),), ((0, 1),), (), (), ())])

    def test_new_each_time(self):
        one = loop([("do", "x", "get")], [("put", "x", "item")])
        table(one, one).clear()
        self.assertEqual(len(table(one, one)), 1)

    def test_nothing(self):
        names = Names()
        one = Loop(names, [], [], [])
        self.assertEqual(table(one, one), [((False, False), (), (), (), (), (), (), (), ())])


class NamesTest(Case):
    def test_unlike_names(self):
        other = Loop(Names(["a", "b"]), [], [], [])
        for work in (parting, alike, forgetting, table):
            for pair in ((loop(), other), (other, loop())):
                with self.assertRaises(UnlikeNames) as caught:
                    work(*pair)
                self.assertIs(caught.exception.__class__, UnlikeNames)

    def test_names_made_anew(self):
        again = Names(["a"], {"f": 1}, {}, {"tell": 1})
        one = loop([], [("call", "v", "f", "item"), tell("v")], names=PLAIN)
        two = loop([], [("call", "w", "f", "item"), tell("w")], names=again)
        self.assertIs(alike(one=one, other=two), True)
        self.assertIsNone(parting(other=one, one=two))
        self.assertIsNone(forgetting(one=one, other=two))
        self.assertEqual(len(table(one=one, other=two)), 1)

    def test_the_same_call_told_twice(self):
        def made():
            return (loop([("put", "k", "a")], [ask("p", ["item"], [("put", "k", "item")]), tell("k")]),
                    loop([("put", "k", "b")], [ask("p", ["item"], [("put", "k", "item")]), tell("k")]))
        self.assertEqual(parting(*made()), parting(*made()))
        one = made()[0]
        self.assertEqual(table(one, made()[0]), table(one, made()[0]))


class SizeTest(Case):
    """Loops as large as callers may have them come to their end soon."""

    def test_many_registers(self):
        registers = ["r" + letter for letter in "abcdefg"]
        start = [("put", name, "a") for name in registers]
        turn = [ask("p", [registers[0]], [tell(registers[0])]), ask("p", ["item"], [], [tell("item")])]
        turn += [("put", name, other) for name, other in zip(registers, registers[1:])] + [("put", registers[-1], "item")]
        one = loop(start, turn)
        self.assertEqual(len(table(one, one)), 509)

    def test_many_turns(self):
        names = Names(["a", "b"], {}, {}, {"get": 0}, apart=[("a", "b")])
        registers = ["r" + letter for letter in "abcdef"]

        def counted(at):
            if at == len(registers):
                return [("do", None, "get")]
            name = registers[at]
            return [same(name, "a", [("put", name, "b")], [("put", name, "a"), *counted(at + 1)])]

        start = [("put", name, "a") for name in registers]
        one, two = loop(start, counted(0), names=names), loop(names=names)
        self.is_parted(one, two, 64)

    def test_six_ifs_on_each_way(self):
        registers = ["r" + letter for letter in "abc"]
        start = [("put", name, "a") for name in registers]
        turn = [ask("p", [name], [tell(name)], [tell("item")]) for name in registers]
        turn += [same(name, "item", [tell(name)]) for name in registers]
        turn += [("put", name, other) for name, other in zip(registers, registers[1:])] + [("put", registers[-1], "item")]
        one = loop(start, turn)
        self.assertIs(alike(one, one), True)


if __name__ == "__main__":
    unittest.main()
