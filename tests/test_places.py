"""Points [23], [24] and [29]: what is so at the places of a loop alone, and loops that are mended."""

from tests.common import LEAVE, Case, ask, call, do, maker, put, same
from tests.odd import Raises, Text, Yes, no_names, no_texts, no_texts_but_lists, own_list
from unknowncalls.errors import NoPlace, NoTest
from unknowncalls.loops import Loop
from unknowncalls.names import Names
from unknowncalls.places import mended, needless, never, never_equal, nothing, order_at, settled, sure
from unknowncalls.walks import alike, forgetting

NAMES = Names(["a", "b"], {"f": 1, "s": 2, "h": 1}, {"p": 1, "q": 2, "r": 2}, {"t": 1, "d": 0},
              {"s": "swaps", "h": "settles", "q": "both", "r": "order"})
APART = Names(["a", "b"], {"f": 1}, {"p": 1, "r": 2}, {"t": 1, "d": 0}, {"r": "order"}, [("r", ["a", "b"], True)])
loop, known = maker(NAMES), maker(APART)
FORGETS = loop([], [call("v", "f", "a"), call("v", "f", "v"), do("t", "v")])
WAY = (1, ("turn", 0), [([], []), ([], []), ([], [])])


class NothingTest(Case):
    def test_nothing(self):
        self.assertEqual(nothing(NAMES), loop())
        self.assertEqual(nothing(names=APART), Loop(APART, [], [], []))
        self.assertEqual(nothing(NAMES).places(), [])


class NeverTest(Case):
    def test_all_are_come_to(self):
        one = loop([put("x", "a")], [ask("p", ["item"], [do("t", "item")], [do("t", "x")])], [do("t", "x")])
        self.assertEqual(never(one), [])

    def test_in_their_order(self):
        one = loop(
            [same("a", "a", [put("x", "a")], [put("x", "b")]), put("y", "x")],
            [same("x", "a", [do("t", "x")], [do("t", "item"), same("x", "item", [], [put("x", "a")])])],
            [same("y", "x", [], [do("t", "x")])])
        self.assertEqual(never(one), [
            ("start", 0, "else", 0), ("turn", 0, "else", 0), ("turn", 0, "else", 1), ("turn", 0, "else", 1, "else", 0),
            ("end", 0, "else", 0)])
        self.assertEqual(never(loop=one), never(one))

    def test_behind_leaves(self):
        one = loop([], [ask("p", ["item"], [LEAVE], [LEAVE]), do("t", "item"), ask("p", ["item"], [do("t", "a")])])
        self.assertEqual(never(one), [("turn", 1), ("turn", 2), ("turn", 2, "then", 0)])
        one = loop([put("x", "a")], [put("x", "b"), LEAVE], [ask("p", ["x"], [], [do("t", "x")])])
        self.assertEqual(never(one), [])

    def test_only_behind_the_second_turn(self):
        one = known([put("x", "a")], [same("x", "b", [do("t", "item")]), put("x", "b")])
        self.assertEqual(never(one), [])
        one = known([put("x", "a")], [same("x", "b", [do("t", "item")]), put("x", "a")])
        self.assertEqual(never(one), [("turn", 0, "then", 0)])

    def test_facts(self):
        one = known([], [ask("r", ["a", "b"], [], [do("t", "a")]), ask("r", ["b", "a"], [do("t", "b")]), same("a", "b", [
            do("t", "item")])])
        self.assertEqual(never(one), [("turn", 0, "else", 0), ("turn", 1, "then", 0), ("turn", 2, "then", 0)])

    def test_answers_that_are_impossible_in_the_end(self):
        # p says yes of x and no of y: they are not equal.
        one = loop([("do", "x", "d"), ("do", "y", "d")],
                   [ask("p", ["x"], [ask("p", ["y"], [], [same("x", "y", [do("t", "x")])])])])
        self.assertEqual(never(one), [("turn", 0, "then", 0, "else", 0, "then", 0)])

    def test_forgotten(self):
        for work in (never, needless, settled, mended):
            self.assertEqual(self.forgets(work, FORGETS), WAY)


class SureTest(Case):
    def test_order_of_sources(self):
        one = loop([put("x", "b"), put("y", "a")],
                   [same("item", "y", [put("w", "item"), put("z", "b"), do("t", "w")])], [put("v", "y"), do("t", "v")])
        self.assertEqual(one.registers(), ["x", "y", "w", "z", "v"])
        self.assertEqual(sure(one, ("start", 0)), [])
        self.assertEqual(sure(one, ("start", 1)), [("x", "b")])
        self.assertEqual(sure(one, ("turn", 0)), [("x", "b"), ("y", "a")])
        self.assertEqual(sure(one, ("turn", 0, "then", 0)), [("x", "b"), ("y", "a", "item")])
        self.assertEqual(sure(one, ("turn", 0, "then", 2)), [("x", "z", "b"), ("y", "w", "a", "item")])
        self.assertEqual(sure(one, ("end", 1)), [("x", "b"), ("y", "v", "a")])

    def test_whenever_a_run_comes(self):
        one = loop([put("x", "a"), put("y", "a")], [do("t", "x"), put("x", "item")], [do("t", "x")])
        self.assertEqual(sure(one, ("turn", 0)), [("y", "a")])
        self.assertEqual(sure(one, ("turn", 1)), [("y", "a")])
        self.assertEqual(sure(one, ("end", 0)), [("y", "a")])

    def test_what_is_equal_now_and_then_is_not_sure(self):
        one = loop([put("x", "a"), put("y", "b")],
                   [ask("p", ["item"], [put("z", "x")], [put("z", "y")]), do("t", "z")])
        self.assertEqual(sure(one, ("turn", 1)), [("x", "a"), ("y", "b")])

    def test_registers_that_are_put_on_one_way_are_no_sources(self):
        one = loop([], [ask("p", ["item"], [put("x", "item")]), put("x", "a"), do("t", "x")])
        self.assertEqual(sure(one, ("turn", 1)), [])
        self.assertEqual(sure(one, ("turn", 2)), [("x", "a")])

    def test_equal_results(self):
        one = loop([("do", "x", "d")], [call("y", "f", "x"), call("z", "f", "x"), do("t", "y"), same("x", "item", [
            call("w", "f", "item"), do("t", "w")])])
        self.assertEqual(sure(one, ("turn", 2)), [("y", "z")])
        self.assertEqual(sure(one, ("turn", 3, "then", 0)), [("x", "item"), ("y", "z")])
        self.assertEqual(sure(one, ("turn", 3, "then", 1)), [("x", "item"), ("y", "z", "w")])

    def test_no_run_comes(self):
        one = loop([put("x", "a")], [same("x", "a", [LEAVE], [do("t", "x"), LEAVE]), put("y", "z"), do("t", "y")])
        for place in (("turn", 0, "else", 0), ("turn", 1), ("turn", 2)):
            self.assertIsNone(sure(one, place))
            self.assertIsNone(never_equal(one, place))
            self.assertIsNone(order_at(one, place, "r"))
        self.assertEqual(sure(one, ("turn", 0, "then", 0)), [("x", "a")])

    def test_behind_a_leave(self):
        one = loop([put("x", "a")], [ask("p", ["item"], [put("x", "item"), LEAVE]), put("x", "a")], [do("t", "x")])
        self.assertEqual(sure(one, ("end", 0)), [])
        self.assertEqual(sure(one, ("turn", 0)), [("x", "a")])


class NeedlessTest(Case):
    def test_calls_made_twice(self):
        one = loop([call("x", "f", "a")], [call("y", "f", "a"), call("z", "f", "item"), call("w", "f", "item"), do("t", "w")],
                   [call("y", "f", "a"), do("t", "y")])
        self.assertEqual(list(needless(one).items()), [(("turn", 0), "x"), (("turn", 2), "z"), (("end", 0), "x")])

    def test_the_first_source(self):
        one = loop([call("x", "f", "a"), put("y", "x")], [call("x", "f", "a"), put("y", "item"), call("y", "f", "a")])
        self.assertEqual(needless(one), {("turn", 0): "x", ("turn", 2): "x"})
        one = loop([call("x", "f", "a"), put("y", "x")], [put("x", "item"), call("z", "f", "a"), put("x", "y")])
        self.assertEqual(needless(one), {("turn", 1): "y"})

    def test_one_and_the_same_source(self):
        # x or y holds the value, but neither always does.
        one = loop([call("v", "f", "a")], [
            put("x", "a"), put("y", "a"), put("u", "v"),
            ask("p", ["item"], [put("x", "u")], [put("y", "u")]), put("u", "a"), put("v", "x"),
            call("z", "f", "a"), do("t", "z"), put("v", "z")])
        self.assertEqual(needless(one), {})

    def test_constants_and_the_item(self):
        names = Names(["a", "b"], {"f": 1, "h": 1}, {}, {"t": 1}, {"h": "settles"}, [("f", ["a"], "b")])
        one = Loop(names, [call("x", "f", "a")], [put("x", "item"), call("y", "f", "a"), call("z", "h", "item"), same("z", "item", [
            call("w", "h", "z"), do("t", "w")])], [])
        self.assertEqual(needless(one), {("start", 0): "b", ("turn", 1): "b", ("turn", 3, "then", 0): "x"})

    def test_item_stands_last(self):
        one = loop([], [call("y", "h", "item"), same("y", "item", [call("z", "h", "item"), put("y", "a"), call("z", "h", "item")])])
        self.assertEqual(needless(one), {("turn", 1, "then", 0): "y", ("turn", 1, "then", 2): "z"})
        one = loop([], [call("y", "h", "item"), same("y", "item", [put("y", "a"), call("z", "h", "item")])])
        self.assertEqual(needless(one), {("turn", 1, "then", 1): "item"})

    def test_swaps_and_settles(self):
        one = loop([], [call("x", "s", "item", "a"), call("y", "s", "a", "item"), call("z", "h", "x"), call("z", "h", "z")])
        self.assertEqual(needless(one), {("turn", 1): "x", ("turn", 3): "z"})

    def test_places_that_no_run_comes_to(self):
        one = loop([call("x", "f", "a")], [same("x", "x", [], [call("y", "f", "a")])])
        self.assertEqual(needless(one), {})

    def test_a_call_whose_value_is_known_now_and_then(self):
        one = loop([], [ask("p", ["item"], [call("x", "f", "item")], [put("x", "a")]), call("y", "f", "item"), do("t", "y")])
        self.assertEqual(needless(one), {})


class SettledTest(Case):
    def test_settled(self):
        one = loop([put("x", "a")], [
            same("x", "a", [do("t", "x")], [do("t", "a")]),
            ask("p", ["item"], [ask("p", ["item"], [do("t", "item")])], [ask("p", ["item"])]),
            ask("r", ["item", "item"], [do("t", "a")])])
        self.assertEqual(list(settled(one).items()), [
            (("turn", 0), True), (("turn", 1, "then", 0), True), (("turn", 1, "else", 0), False), (("turn", 2), False)])

    def test_settled_by_what_would_be_impossible(self):
        one = loop([("do", "x", "d"), ("do", "y", "d"), ask("p", ["x"], [ask("p", ["y"], [], [same("x", "y")])])])
        self.assertEqual(settled(one), {("start", 2, "then", 0, "else", 0): False})

    def test_not_settled(self):
        one = known([put("x", "a")], [same("x", "b"), ask("p", ["item"], [put("x", "b")])])
        self.assertEqual(settled(one), {})
        one = known([put("x", "a")], [same("x", "b", [same("x", "a")]), ask("p", ["item"], [put("x", "b")])])
        self.assertEqual(settled(one), {("turn", 0, "then", 0): False})


class MendedTest(Case):
    def check(self, one, wanted):
        told = mended(one)
        self.assertEqual(told, wanted)
        self.assertEqual((never(told), needless(told), settled(told)), ([], {}, {}))
        self.assertEqual(mended(told), told)
        self.assertIs(alike(told, one), True)
        self.assertIsNone(forgetting(told, told))

    def test_needless_calls(self):
        one = loop([call("x", "f", "a")], [call("y", "f", "a"), do("t", "y")], [call("z", "f", "a"), do("t", "z")])
        self.check(one, loop([call("x", "f", "a")], [put("y", "x"), do("t", "y")], [put("z", "x"), do("t", "z")]))

    def test_settled_ifs(self):
        one = loop([put("x", "a")], [same("x", "a", [do("t", "x"), ask("p", ["item"], [LEAVE])], [do("t", "a")]), do("t", "item")])
        self.check(one, loop([put("x", "a")], [do("t", "x"), ask("p", ["item"], [LEAVE]), do("t", "item")]))

    def test_a_leave_that_is_always_come_to(self):
        one = loop([put("x", "a")], [same("x", "a", [LEAVE]), do("t", "item"), ask("p", ["a"], [], [do("t", "x")])], [do("t", "x")])
        self.check(one, loop([put("x", "a")], [LEAVE], [do("t", "x")]))

    def test_both_branches_leave(self):
        one = loop([], [ask("p", ["item"], [do("t", "a"), LEAVE], [LEAVE]), do("t", "item")])
        self.check(one, loop([], [ask("p", ["item"], [do("t", "a"), LEAVE], [LEAVE])]))

    def test_again_and_again(self):
        # Only when the call is gone, with which x is put on some way, x is always a.
        one = loop([put("x", "a")], [
            same("x", "a", [], [call("x", "f", "x")]), same("x", "a", [call("y", "h", "item"), call("z", "h", "y"), same(
                "z", "y", [do("t", "z")])])])
        self.check(one, loop([put("x", "a")], [call("y", "h", "item"), put("z", "y"), do("t", "z")]))

    def test_a_register_that_lasts_then(self):
        one = loop([same("a", "a", [put("x", "a")])], [put("x", "item"), do("t", "x")])
        self.assertEqual(one.lasting(), [])
        self.check(one, loop([put("x", "a")], [put("x", "item"), do("t", "x")]))

    def test_nothing_to_mend(self):
        one = loop([put("x", "a")], [ask("p", ["item"]), call("y", "f", "item"), do("t", "y")])
        self.check(one, one)
        self.assertIsNot(mended(loop=one).section("turn"), one.section("turn"))


class UnlikeTest(Case):
    def test_never_equal(self):
        one = known([put("x", "a")], [same("item", "a", [], [do("t", "item")]), do("t", "a"), put("x", "item")], [do("t", "x")])
        self.assertEqual(never_equal(one, ("start", 0)), [("a", "b")])
        self.assertEqual(never_equal(one, ("turn", 0)), [("a", "b")])
        self.assertEqual(never_equal(one, ("turn", 0, "else", 0)), [("a", "b"), ("a", "item")])
        self.assertEqual(never_equal(one, ("turn", 1)), [("a", "b")])
        self.assertEqual(never_equal(loop=one, place=("end", 0)), [("a", "b")])

    def test_by_what_cannot_be_joined(self):
        one = loop([("do", "x", "d"), ("do", "y", "d"), ask("p", ["x"], [ask("p", ["y"], [], [do("t", "a")])]),
                    call("u", "f", "x"), call("v", "f", "y"), same("u", "v", [], [do("t", "a")])])
        self.assertEqual(never_equal(one, ("start", 2, "then", 0, "else", 0)), [("x", "y")])
        self.assertEqual(never_equal(one, ("start", 5, "else", 0)), [("x", "y"), ("u", "v")])
        self.assertEqual(never_equal(one, ("start", 5)), [])

    def test_pairs_in_order(self):
        one = loop([("do", "x", "d")], [put("y", "item"), ask("r", ["x", "a"], [ask("r", ["a", "y"], [do("t", "y")])])])
        self.assertEqual(never_equal(one, ("turn", 1, "then", 0, "then", 0)), [("x", "y"), ("x", "a"), ("x", "item"), ("y", "a"), (
            "a", "item")])


class OrderTest(Case):
    def test_order(self):
        one = loop([("do", "x", "d")], [put("y", "item"), ask("r", ["x", "a"], [ask("r", ["y", "a"], [do("t", "y")], [do("t", "a")])])])
        self.assertEqual(order_at(one, ("turn", 0), "r"), [])
        self.assertEqual(order_at(one, ("turn", 1), "r"), [("y", "item", False), ("item", "y", False)])
        self.assertEqual(order_at(one, ("turn", 1, "then", 0, "then", 0), "r"), [
            ("x", "a", True), ("y", "a", True), ("y", "item", False), ("item", "y", False), ("item", "a", True)])
        self.assertEqual(order_at(one, ("turn", 1, "then", 0, "else", 0), test="r"), [
            ("x", "y", True), ("x", "a", True), ("x", "item", True), ("y", "item", False), ("a", "y", False), ("a", "item", False),
            ("item", "y", False)])

    def test_always(self):
        # The greatest item so far is never behind an item that was read.
        one = loop([put("m", "a")], [put("k", "m"), ask("r", ["m", "item"], [put("m", "item")]), do("t", "m")], [do("t", "m")])
        told = order_at(one, ("turn", 2), "r")
        for triple in (("k", "m", False), ("item", "m", False), ("a", "m", False), ("a", "k", False)):
            self.assertIn(triple, told)
        self.assertEqual(len(told), 4)
        self.assertEqual(order_at(one, ("end", 0), "r"), [("a", "m", False)])

    def test_now_equal_now_ahead(self):
        one = loop([("do", "x", "d")], [ask("r", ["x", "item"], [put("y", "item")], [put("y", "x")]), do("t", "y")])
        self.assertEqual(order_at(one, ("turn", 1), "r"), [("x", "y", False), ("item", "y", False)])

    def test_facts(self):
        one = known([], [do("t", "item")])
        self.assertEqual(order_at(one, ("turn", 0), "r"), [("a", "b", True)])


class WrongTest(Case):
    ONE = loop([put("x", "a")], [ask("p", ["x"], [do("t", "x")], [LEAVE])])

    def works(self):
        return [sure, never_equal, lambda one, place: order_at(one, place, "r")]

    def test_no_place(self):
        bad = [
            (), ("start",), ("start", 1), ("end", 0), ("turn", 0, "then"), ("turn", 0, "then", 1), ("turn", 0, "else", 0, "then", 0),
            ("start", False), ("turn", 0.0), ("start", "0"), (0, "start"), ("turn", 0, 0, 0), ("turn", -1), "start", ("START", 0),
            [["turn"], 0], (Yes(), Yes()), (Raises(), 0), ("turn", Raises()), (None, None), {"turn": 0}, ("turn", 0, Yes(), 0),
            ("turn", 10 ** 40), own_list(), *no_texts(), *no_names(), *no_texts_but_lists(),
        ]
        for work in self.works():
            for thing in bad:
                self.assertIs(self.raised(NoPlace, work, self.ONE, thing).place, thing)
                # The place goes ahead of what is forgotten.
                self.assertIs(self.raised(NoPlace, work, FORGETS, thing).place, thing)
            self.assertEqual(self.forgets(work, FORGETS, ("turn", 0)), WAY)

    def test_places_as_lists(self):
        for work in self.works():
            for place in (["turn", 0], [Text("turn"), 0], ("turn", 0, "then", 0)):
                self.assertEqual(work(self.ONE, place), work(self.ONE, tuple(place[:1]) + tuple(place[1:])))
        self.assertEqual(sure(self.ONE, ["turn", 0]), [("x", "a")])
        self.assertEqual(sure(self.ONE, [Text("turn"), 0, Text("then"), 0]), [("x", "a")])

    def test_no_order(self):
        bad = ["p", "q", "f", "t", "a", "x", "s", "same", "item", "order", "rr", Raises(), Yes(), None, ["r"], ("r",), 1, b"r", {}]
        for thing in bad + no_names():
            for one, place in ((self.ONE, ("turn", 0)), (self.ONE, ("turn", 9)), (FORGETS, ("turn", 0))):
                self.assertIs(self.raised(NoTest, order_at, one, place, thing).name, thing)
        self.assertEqual(order_at(self.ONE, ("turn", 0), Text("r")), [("x", "a", False), ("a", "x", False)])
        other = Loop(Names(["a"], {}, {"r": 2}, {}, {"r": "both"}), [], [], [])
        self.assertEqual(self.raised(NoTest, order_at, other, (), "r").name, "r")

    def test_forgotten_with_the_fewest_sections(self):
        # Also where a longer way to forget comes first in the order of statements.
        again = [call("x", "f", "a"), call("y", "f", "x")]
        one = loop([put("z", "a")], [ask("p", ["item"], again), put("z", "a")], again)
        side, place, answers = self.forgets(never, one)
        self.assertEqual((side, place[0], len(answers)), (1, "end", 3))
        self.assertEqual(self.forgets(never, one), self.forgets(sure, one, ("end", 0)))

    def test_new_each_time(self):
        one = loop([call("x", "f", "a"), put("y", "x")], [same("x", "y", [call("z", "f", "a")], [do("t", "x")])])
        for work in (never, needless, settled, lambda told: sure(told, ("turn", 0)), lambda told: never_equal(told, ("turn", 0)),
                     lambda told: order_at(told, ("turn", 0), "r")):
            first = work(one)
            copy = first.copy()
            first.clear()
            self.assertEqual(work(one), copy)


if __name__ == "__main__":
    import unittest
    unittest.main()
