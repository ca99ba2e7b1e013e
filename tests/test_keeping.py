"""Point [26]: values of calls that are kept."""

import itertools
import random
import sys

from tests import drawn
from tests.common import LEAVE, Case, ask, call, do, maker, put, same
from tests.odd import Raises, Text, Yes, no_names, no_texts, no_texts_but_lists, own_list
from unknowncalls.errors import Forgotten, NoConstant, NoPlace, UnlikeNames
from unknowncalls.keeping import keeping, remedy
from unknowncalls.loops import Loop
from unknowncalls.names import Names
from unknowncalls.walks import alike, forgetting

NAMES = Names(["a", "b"], {"f": 1, "g": 1, "e": 2}, {"p": 1}, {"t": 1, "d": 0})
BARE = Names([], {"f": 1}, {"p": 1}, {"t": 1, "d": 0})
loop, bare = maker(NAMES), maker(BARE)
FORGETS = loop([], [call("v", "f", "a"), call("v", "f", "v"), do("t", "v")])


class KeepingTest(Case):
    def test_in_the_turn(self):
        told = keeping(FORGETS, ("turn", 0))
        self.assertEqual(told, loop([put("ka", "a")], [call("v", "f", "a"), put("ka", "v"), call("v", "f", "v"), do("t", "v")]))
        self.assertIsNone(forgetting(told, told))
        self.assertEqual(keeping(loop=FORGETS, place=["turn", Whole(0)]), told)

    def test_in_the_start_and_in_the_end(self):
        one = loop([do("t", "b"), call("x", "f", "b")], [], [call("y", "f", "a"), do("t", "y")])
        self.assertEqual(keeping(one, ("start", 1)), loop(
            [put("ka", "a"), do("t", "b"), call("x", "f", "b"), put("ka", "x")], [], [call("y", "f", "a"), do("t", "y")]))
        self.assertEqual(keeping(one, ("end", 0)), loop(
            [put("ka", "a"), do("t", "b"), call("x", "f", "b")], [], [call("y", "f", "a"), put("ka", "y"), do("t", "y")]))

    def test_within_ifs(self):
        one = loop([], [ask("p", ["item"], [do("t", "a")], [ask("p", ["a"], [call("x", "f", "item"), LEAVE])])])
        self.assertEqual(keeping(one, ("turn", 0, "else", 0, "then", 0)), loop([put("ka", "a")], [
            ask("p", ["item"], [do("t", "a")], [ask("p", ["a"], [call("x", "f", "item"), put("ka", "x"), LEAVE])])]))

    def test_names_of_registers(self):
        one = loop([put("ka", "b"), put("kc", "b")], [call("kb", "f", "item")])
        self.assertEqual(keeping(one, ("turn", 0)).registers(), ["kd", "ka", "kc", "kb"])
        names = Names(["ka"], {"kb": 1}, {"kc": 1}, {"kd": 0})
        one = Loop(names, [], [call("ke", "kb", "ka")], [])
        self.assertEqual(keeping(one, ("turn", 0)), Loop(names, [put("kf", "ka")], [call("ke", "kb", "ka"), put("kf", "ke")], []))

    def test_the_source_is_its_own_register(self):
        one = loop([put("x", "b")], [call("x", "f", "x")])
        self.assertEqual(keeping(one, ("turn", 0)), loop([put("ka", "a"), put("x", "b")], [call("x", "f", "x"), put("ka", "x")]))

    def test_alike(self):
        chance = random.Random(51)
        kinds = {}
        for _ in range(250):
            one, _ = drawn.pair(chance)
            if not one.names.constants:
                continue
            for place in call_places(one):
                told = keeping(one, place)
                try:
                    self.assertIs(alike(told, one), True)
                    kinds["alike"] = kinds.get("alike", 0) + 1
                except Forgotten:
                    self.assertIsNotNone(forgetting(one, one))
                    kinds["forgets"] = kinds.get("forgets", 0) + 1
        self.assertGreater(min(kinds["alike"], kinds["forgets"]), 20)

    def test_no_place(self):
        one = loop([put("x", "a")], [same("x", "item", [call("y", "f", "x")]), do("t", "x"), LEAVE])
        bad = [("start", 0), ("turn", 0), ("turn", 1), ("turn", 2), ("turn", 0, "then", 1), ("turn", False, "then", 0), ("end", 0),
               ("turn", 0.0, "then", 0), (), own_list(), Yes(), Raises(), (Raises(),), ("turn", 0, Yes(), 0)]
        for thing in bad + no_names() + no_texts() + no_texts_but_lists():
            self.assertIs(self.raised(NoPlace, keeping, one, thing).place, thing)
        self.assertEqual(keeping(one, [Text("turn"), 0, "then", 0]), keeping(one, ("turn", 0, "then", 0)))

    def test_no_constant(self):
        one = bare([], [call("x", "f", "item"), do("t", "x")])
        self.raised(NoConstant, keeping, one, ("turn", 0))
        self.assertEqual(self.raised(NoPlace, keeping, one, ("turn", 1)).place, ("turn", 1))


class RemedyTest(Case):
    def check(self, one, other, wanted):
        self.assertEqual(remedy(one, other), wanted)
        if wanted is not None:
            self.assertEqual([pair.__class__ for pair in wanted], [tuple] * len(wanted))
            self.assertIsNone(forgetting(kept(one, [place for side, place in wanted if side == 1]),
                                         kept(other, [place for side, place in wanted if side == 2])))

    def test_none_is_needed(self):
        one = loop([], [call("v", "f", "a"), do("t", "v")])
        self.check(one, one, [])
        self.check(bare(), bare([], [do("t", "item")]), [])

    def test_one(self):
        self.check(FORGETS, loop(), [(1, ("turn", 0))])
        self.check(loop(), FORGETS, [(2, ("turn", 0))])

    def test_beside_itself_one_is_enough(self):
        self.check(FORGETS, FORGETS, [(1, ("turn", 0))])

    def test_the_first_of_several(self):
        # The same value is reckoned at two places: either may be kept.
        one = loop([], [call("v", "f", "a"), call("u", "f", "a"), call("v", "f", "v"), do("t", "v"), do("t", "u")])
        self.check(one, loop(), [(1, ("turn", 0))])
        one = loop([], [ask("p", ["item"], [call("u", "f", "b"), do("t", "u")]), call("u", "f", "a"), call("v", "f", "a"),
                        call("v", "f", "v"), do("t", "v")])
        self.check(one, loop(), [(1, ("turn", 1))])
        other = loop([], [call("u", "f", "a"), do("t", "u")])
        self.check(loop([], [call("u", "f", "a"), do("t", "u"), call("u", "f", "u"), do("t", "u")]), other, [(1, ("turn", 0))])
        self.check(other, loop([], [call("u", "f", "a"), do("t", "u"), call("u", "f", "u"), do("t", "u")]), [(1, ("turn", 0))])

    def test_two(self):
        one = loop([], [call("v", "f", "a"), call("v", "f", "v"), call("u", "g", "a"), call("u", "g", "u"), do("t", "u"), do("t", "v")])
        self.check(one, loop(), [(1, ("turn", 0)), (1, ("turn", 2))])
        self.check(loop(), one, [(2, ("turn", 0)), (2, ("turn", 2))])
        self.check(FORGETS, loop([], [call("v", "g", "b"), call("v", "g", "v")]), [(1, ("turn", 0)), (2, ("turn", 0))])

    def test_more_than_two(self):
        one = loop([], [step for name, source in (("f", "a"), ("g", "a"), ("f", "b"))
                        for step in (call("v", name, source), call("v", name, "v"), do("t", "v"))])
        self.check(one, loop(), None)

    def test_places_in_their_order(self):
        # Whether the first or the second call forgets: by places of the loop as it is.
        one = loop([], [call("u", "g", "b"), do("t", "u"), ask("p", ["item"], [call("v", "f", "a")], [put("v", "a")]),
                        call("w", "g", "v"), do("t", "w")])
        self.check(one, one, plain_remedy(one, one))

    def test_forgotten_at_an_answer(self):
        one = loop([("do", "x", "d"), ("do", "y", "d")], [
            call("u", "f", "x"), call("v", "f", "y"), call("u", "g", "u"), call("v", "g", "v"), do("t", "u"), do("t", "v"),
            same("x", "y", [do("t", "a")])])
        self.assertIsNotNone(forgetting(one, loop()))
        self.check(one, loop(), plain_remedy(one, loop()))

    def test_drawn(self):
        chance = random.Random(52)
        kinds = {}
        for _ in range(260):
            one, other = drawn.pair(chance)
            try:
                told = remedy(one=one, other=other)
            except NoConstant:
                told = "none"
            self.assertEqual(told, plain_remedy(one, other))
            kind = len(told) if isinstance(told, list) else told
            kinds[kind] = kinds.get(kind, 0) + 1
        self.assertGreater(min(kinds[kind] for kind in (0, 1, 2, None, "none")), 1, kinds)

    def test_drawn_that_reckon_again(self):
        chance = random.Random(53)
        kinds = {}
        for _ in range(300):
            one = drawn.reckoning(chance)
            other = chance.choice([one, Loop(one.names, [], [], [])])
            told = remedy(one, other)
            self.assertEqual(told, plain_remedy(one, other))
            kind = None if told is None else len(told)
            kinds[kind] = kinds.get(kind, 0) + 1
        self.assertGreater(min(kinds[kind] for kind in (0, 1, 2, None)), 5, kinds)

    def test_chains(self):
        remedies = {1: [], 2: [(1, ("turn", 0))], 3: [(1, ("turn", 0)), (1, ("turn", 1))]}
        for many in (1, 2, 3, 4, 9):
            one, wanted = chain(many), remedies.get(many)
            self.check(one, one, wanted)
            self.check(one, chain(many), wanted)
            self.check(one, loop(), wanted)
            self.check(loop(), one, wanted and [(2, place) for _, place in wanted])
            self.check(one, chain(many + 1), remedies.get(many + 1))

    def test_a_gone_value_that_is_held_for_a_while(self):
        # f(a) is known as long as the other call that gave the same: where u is kept until this one goes, it is no more.
        names = Names(["a", "b", "c", "e"], {"f": 1, "g": 1}, {}, {"t": 1, "d": 0}, {}, [],
                      [("a", "b"), ("a", "c"), ("a", "e"), ("b", "c"), ("b", "e"), ("c", "e")])
        one = Loop(names, [put("s", "a"), put("k", "a"), ("do", "y", "d")], [
            call("u", "f", "k"),
            same("s", "a",
                 [call("v", "g", "y"), same("u", "v", [], [LEAVE]), put("s", "b"), put("k", "item")],
                 [put("k", "item"), same("s", "b", [put("y", "item"), put("s", "c")], [
                     same("s", "c", [call("w", "f", "a"), do("t", "w"), put("s", "e")])])])], [])
        none = Loop(names, [], [], [])
        self.assertEqual(forgetting(one, none)[:2], (1, ("turn", 1, "else", 1, "else", 0, "then", 0)))
        self.check(one, none, [(1, ("turn", 0))])
        self.check(one, one, [(1, ("turn", 0))])
        self.assertEqual(plain_remedy(one, none), [(1, ("turn", 0))])

    def test_it_takes_as_long_as_few_walks(self):
        many = steps(forgetting, chain(4), chain(4))
        self.assertLess(steps(remedy, chain(4), chain(4)), 25 * many)
        self.assertLess(steps(remedy, chain(1), chain(1)), 3 * many)
        self.assertLess(steps(remedy, chain(18), chain(18)), 60 * many)
        # With many ways through a section, a way that forgets is not looked for where one is known.
        registers = ["x", "y", "z", "u", "v"]
        calls = [(name, source) for name in ("f", "g") for source in ("a", "b", "x")]
        one = loop([("do", name, "d") for name in registers], [
            ask("p", [source], [call("w", *first), call("w", first[0], "w")], [call("w", *first)])
            for source, first in zip(registers, calls)])
        self.assertLess(steps(remedy, one, one), 6 * steps(forgetting, one, one))

    def test_errors(self):
        forgets = bare([("do", "x", "d")], [call("u", "f", "x"), call("u", "f", "u")])
        self.raised(NoConstant, remedy, forgets, bare())
        self.raised(NoConstant, remedy, bare(), forgets)
        self.raised(UnlikeNames, remedy, forgets, loop())
        self.raised(UnlikeNames, remedy, loop(), bare())

    def test_many_calls(self):
        # Five ways to forget: no two calls are enough, and most need not be tried.
        steps = [call("v", name, source) for name in ("f", "g") for source in ("a", "b")]
        turn = [step for first in steps for step in (first, call("v", first[2], "v"), do("t", "v"))]
        one = loop([], [ask("p", ["item"], turn[:6], turn[6:])])
        self.check(one, one, None)

    def test_new_each_time(self):
        remedy(FORGETS, FORGETS).clear()
        self.assertEqual(remedy(FORGETS, FORGETS), [(1, ("turn", 0))])


def chain(many):
    """The loop that calls f of a, then f of the value, and so on, and tells the last one."""
    names = ["a", *(f"v{letter}" for letter in "abcdefghijklmnopqrstuvwxyz"[:many])]
    return loop([], [call(later, "f", first) for first, later in zip(names, names[1:])] + [do("t", names[-1])])


def steps(work, *told):
    """How many functions are called while a call is done: alike whenever it is asked."""
    events = []
    sys.setprofile(lambda frame, event, argument: events.append(event))
    try:
        work(*told)
    finally:
        sys.setprofile(None)
    return sum(event in ("call", "c_call") for event in events)


class Whole(int):
    """An integer of a class of its own."""


def call_places(one):
    def go(place, block):
        for index, statement in enumerate(block):
            if statement[0] == "call":
                yield place + (index,)
            if statement[0] == "if":
                yield from go(place + (index, "then"), statement[2])
                yield from go(place + (index, "else"), statement[3])
    return [place for word in ("start", "turn", "end") for place in go((word,), one.section(word))]


def kept(one, places):
    """The loop in which calls are kept one after the other: those of later places first, so that others stay where they are."""
    for many, place in enumerate(sorted(places, key=one.places().index, reverse=True)):
        one = keeping(one, place if place[0] != "start" else ("start", place[1] + many, *place[2:]))
    return one


def plain_remedy(one, other):
    """The first list by which neither forgets, by trying all of them."""
    if forgetting(one, other) is None:
        return []
    if not one.names.constants:
        return "none"
    calls = [(side, place) for side, told in ((1, one), (2, other)) for place in call_places(told)]
    for many in (1, 2):
        for some in itertools.combinations(calls, many):
            pair = [kept(told, [place for number, place in some if number == side]) for side, told in ((1, one), (2, other))]
            if forgetting(*pair) is None:
                return list(some)
    return None


if __name__ == "__main__":
    import unittest
    unittest.main()
