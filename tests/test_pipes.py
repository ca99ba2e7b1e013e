"""Points [40], [41] and [52]: loops put together."""

import random
import unittest

from tests import drawn
from tests.odd import Text, no_names
from tests.plain import plain_block, plain_deeds
from unknowncalls.errors import HasLeave, NoDeed, UnlikeNames, UsedResult
from unknowncalls.loops import Loop
from unknowncalls.names import Names
from unknowncalls.pipes import beside, piped
from unknowncalls.texts import read_loop
from unknowncalls.walks import alike, parting

NAMES = Names(["a", "b"], {"f": 1, "g": 2, "pb": 1}, {"p": 1}, {"tell": 1, "say": 1, "d": 0, "two": 2}, apart=[("b", "a"), ("a", "b")])
LOOSE = Names(["a", "b"], {"f": 1, "g": 2, "pb": 1}, {"p": 1}, {"tell": 1, "say": 1, "d": 0, "two": 2})


def loop(start=(), turn=(), end=(), names=LOOSE):
    return Loop(names, start, turn, end)


def tell(source):
    return ("do", None, "tell", source)


class Case(unittest.TestCase):
    def raised(self, error, work, *told, **more):
        with self.assertRaises(error) as caught:
            work(*told, **more)
        self.assertIs(caught.exception.__class__, error)
        return caught.exception


class PipedTest(Case):
    def test_example(self):
        names = Names(["a"], {"f": 1}, {}, {"tell": 1})
        one = read_loop(names, "start\nturn\n  do tell(f(f(item)))\nend\n")
        four = read_loop(names, "start\nturn\n  do tell(f(f(f(f(item)))))\nend\n")
        three = read_loop(names, "start\nturn\n  do tell(f(f(f(item))))\nend\n")
        told = piped(one, one, "tell")
        self.assertIs(alike(told, four), True)
        self.assertIs(alike(told, three), False)
        self.assertEqual(told, Loop(names, [], [
            ("call", "ha", "f", "item"), ("call", "hb", "f", "ha"), ("call", "pa", "f", "hb"), ("call", "pb", "f", "pa"),
            ("do", None, "tell", "pb")], []))

    def test_in_each_section_and_within_ifs(self):
        one = loop(
            [("put", "x", "a"), tell("x"), ("do", "pa", "d")],
            [tell("item"), ("if", ("ask", "p", "item"), [tell("a"), ("do", None, "say", "x")], [tell("item")]), ("leave",)],
            [tell("x"), ("do", None, "d")])
        other = loop(
            [("put", "y", "b"), ("do", None, "say", "y")],
            [("call", "x", "g", "item", "y"), ("if", ("same", "item", "x"), [("put", "y", "item")], []), ("do", "x", "tell", "x")],
            [("do", None, "two", "y", "y")])

        def turn(item):
            return [("call", "pd", "g", item, "pc"), ("if", ("same", item, "pd"), [("put", "pc", item)], []),
                    ("do", "pd", "tell", "pd")]

        self.assertEqual(piped(one, other, "tell"), loop(
            [("put", "pc", "b"), ("do", None, "say", "pc"), ("put", "x", "a"), *turn("x"), ("do", "pa", "d")],
            [*turn("item"), ("if", ("ask", "p", "item"), [*turn("a"), ("do", None, "say", "x")], turn("item")), ("leave",)],
            [*turn("x"), ("do", None, "d"), ("do", None, "two", "pc", "pc")]))

    def test_a_deed_that_is_not_done(self):
        one = loop([("put", "x", "a")], [("do", None, "say", "x")])
        other = loop([("do", "x", "d")], [tell("x"), tell("item")], [tell("x")])
        self.assertEqual(piped(one=one, other=other, deed="tell"), loop(
            [("do", "pa", "d"), ("put", "x", "a")], [("do", None, "say", "x")], [tell("pa")]))

    def test_words_of_statements_as_registers(self):
        start = [("put", "ask", "a"), ("put", "put", "b"), ("call", "call", "f", "ask")]
        turn = [("if", ("ask", "p", "put"), [("put", "put", "item")], [("call", "then", "g", "ask", "call")])]
        told = piped(loop([], [tell("item")]), loop(start, turn), "tell")
        self.assertEqual(told, loop(
            [("put", "pa", "a"), ("put", "pc", "b"), ("call", "pd", "f", "pa")],
            [("if", ("ask", "p", "pc"), [("put", "pc", "item")], [("call", "pe", "g", "pa", "pd")])]))

    def test_what_is_done_on_all_ways_stands_once(self):
        other = loop([("put", "x", "a")], [
            ("if", ("ask", "p", "item"), [("put", "x", "item")], []), ("do", None, "say", "x"),
            ("if", ("ask", "p", "x"), [("do", None, "d")], [("leave",)]), ("do", None, "say", "item")], [], NAMES)
        told = piped(loop([], [tell("item")], [], NAMES), other, "tell")
        self.assertEqual(str(told.section("turn")).count("say"), 2)

    def test_many_new_names(self):
        letters = "abcdefghijklmnopqrstuvwxyz"
        registers = ["k" + letter for letter in letters] + ["m" + letter for letter in letters[:10]]
        other = loop([("put", name, "a") for name in registers], [tell(registers[-1])])
        told = piped(loop([("put", "pz", "a")], [tell("item")]), other, "tell")
        expected = [pair for pair in ["p" + letter for letter in letters] + ["q" + letter for letter in letters]
                    if pair not in ("pb", "pz")][:36]
        self.assertEqual(told.registers(), expected + ["pz"])

    def test_leaves(self):
        one = loop([tell("a")], [tell("item")], [tell("b")], names=NAMES)
        other = loop([("put", "k", "a")],
                     [("if", ("ask", "p", "item"), [("put", "k", "item"), ("leave",)], []), ("do", None, "say", "item")],
                     [("do", None, "say", "k")], NAMES)
        told = piped(one, other, "tell")
        self.assertEqual(told.registers(), ["pc", "pa"])
        self.assertEqual(told.section("start")[:2], [("put", "pc", "b"), ("put", "pa", "a")])

        def turn(item):
            return ("if", ("same", "flag", "a"), [], [
                ("if", ("ask", "p", item), [("put", "k", item), ("put", "flag", "a")], [("do", None, "say", item)])])

        self.assertIs(alike(told, loop(
            [("put", "k", "a"), ("put", "flag", "b"), turn("a")], [turn("item")], [turn("b"), ("do", None, "say", "k")],
            NAMES)), True)

    def test_a_leave_of_other_behind_which_registers_are_put(self):
        deep = ("if", ("ask", "p", "item"), [("if", ("same", "item", "a"), [("leave",)], [("put", "x", "item")])],
                [("put", "x", "b")])
        other = loop([], [deep, ("do", None, "say", "x"), deep, ("do", None, "say", "x")], [], NAMES)
        one = loop([], [tell("item"), ("do", None, "d")], [], NAMES)
        told = piped(one, other, "tell")
        self.assertIsNotNone(told)
        self.check_piped(one, other, "tell", random.Random(1), 30)

    def test_what_no_way_comes_to_is_no_matter(self):
        both = ("if", ("ask", "p", "item"), [("leave",)], [("do", None, "say", "item"), ("leave",)])
        other = loop([], [both, ("put", "x", "never"), ("do", None, "say", "other"), ("leave",)], [], NAMES)
        one = loop([], [tell("item"), both, tell("none"), ("put", "y", "nothing")], [], NAMES)
        self.check_piped(one, other, "tell", random.Random(2), 30)
        self.check_beside(one, other, random.Random(3), 30)

    def test_one_that_leaves(self):
        one = loop([], [tell("item"), ("if", ("ask", "p", "item"), [("leave",)], [tell("a")])])
        told = piped(one, loop([], [("do", None, "say", "item")]), "tell")
        self.assertEqual(told, loop([], [
            ("do", None, "say", "item"), ("if", ("ask", "p", "item"), [("leave",)], [("do", None, "say", "a")])]))

    def check_piped(self, one, other, deed, chance, many):
        told = piped(one, other, deed)
        for _ in range(many):
            world, items, results = drawn_run(chance, one.names)
            if world is not None:
                self.assertEqual(plain_deeds(told, world, items, results)[0],
                                 plain_piped(one, other, deed, world, items, results))

    def check_beside(self, one, other, chance, many):
        told = beside(one, other)
        self.assertNotIn(("leave",), told.section("turn"))
        for _ in range(many):
            world, items, results = drawn_run(chance, one.names)
            if world is not None:
                first, second = [plain_deeds(each, world, items, results)[0] for each in (one, other)]
                self.assertEqual(plain_deeds(told, world, items, results)[0],
                                 [one + other for one, other in zip(first, second)])

    def test_drawn(self):
        chance = random.Random(40)
        seen = {"leave": 0, "none": 0, "used": 0, "deeds": 0}
        for _ in range(600):
            names = chance.choice((NAMES, LOOSE, *drawn.NAMES))
            drawing = drawn.Drawing(chance, names, ("x", "y", "pa"), 5, 3)
            leaves = len(names.apart()) > 0
            one, other = drawing.loop(), drawing.loop(leaves=leaves)
            seen["leave"] += "leave" in str(other.section("turn"))
            seen["none"] += "leave" not in str(other.section("turn"))
            deed = [name for name, many in names.deeds().items() if many == 1][0]
            try:
                told = piped(one, other, deed)
            except UsedResult:
                seen["used"] += 1
            else:
                seen["deeds"] += deed in str(one.section("turn"))
                self.assertEqual(told.names, names)
                self.check_piped(one, other, deed, chance, 6)
            if leaves or "leave" not in str(one.section("turn")):
                self.check_beside(one, other, chance, 6)
        self.assertGreater(min(seen.values()), 30, seen)


class BesideTest(Case):
    def test_statements(self):
        one = loop([("put", "x", "a")], [tell("x"), ("put", "x", "item")], [tell("x")])
        other = loop([("do", "x", "d"), ("put", "pa", "x")], [("do", None, "say", "item"), ("call", "x", "f", "pa")], [tell("x")])
        self.assertEqual(beside(one, other), loop(
            [("put", "x", "a"), ("do", "pa", "d"), ("put", "pc", "pa")],
            [tell("x"), ("put", "x", "item"), ("do", None, "say", "item"), ("call", "pa", "f", "pc")],
            [tell("x"), tell("pa")]))

    def leaving(self, *names):
        return loop([("put", name, "a") for name in names],
                    [("do", None, "say", "item"), ("if", ("ask", "p", "item"), [("leave",)], [])], [tell("a")], NAMES)

    def test_flags(self):
        stays = loop([("put", "k", "a")], [tell("k")], [], NAMES)
        told = beside(self.leaving("k"), stays)
        self.assertEqual(told.section("start"), [("put", "pc", "b"), ("put", "k", "a"), ("put", "pa", "a")])
        told = beside(stays, self.leaving("k"))
        self.assertEqual(told.section("start"), [("put", "pd", "b"), ("put", "k", "a"), ("put", "pa", "a")])
        told = beside(one=self.leaving("k", "pa"), other=self.leaving("l", "m"))
        self.assertEqual(told.section("start"), [
            ("put", "pe", "b"), ("put", "pf", "b"), ("put", "k", "a"), ("put", "pa", "a"), ("put", "pc", "a"), ("put", "pd", "a")])
        self.assertNotIn("leave", str([told.section(word) for word in ("start", "turn", "end")]))

    def test_alike(self):
        one = self.leaving()
        told = beside(one, one)

        def part(flag):
            return ("if", ("same", flag, "b"), [("do", None, "say", "item"),
                                                ("if", ("ask", "p", "item"), [("put", flag, "a")], [])], [])

        self.assertIs(alike(told, loop([("put", "x", "b"), ("put", "y", "b")], [part("x"), part("y")], [tell("a"), tell("a")],
                                       NAMES)), True)
        self.assertIsNotNone(parting(told, one))

    def test_nothing(self):
        one = loop([], [tell("item")])
        self.assertEqual(beside(one, loop()), one)
        self.assertEqual(beside(loop(), one), one)


class WrongTest(Case):
    def test_unlike_names(self):
        one = loop([], [("do", "x", "tell", "item"), ("leave",)])
        other = loop([], [("leave",)], names=NAMES)
        for pair in ((one, other), (other, one)):
            self.raised(UnlikeNames, piped, *pair, None)
            self.raised(UnlikeNames, beside, *pair)

    def test_no_deed(self):
        one, other = loop([], [("do", "x", "tell", "item")]), loop([], [("leave",)])
        for thing in ["d", "two", "a", "f", "p", "x", "do", "", *no_names()]:
            self.assertIs(self.raised(NoDeed, piped, one, other, thing).name, thing)

    def test_used_result(self):
        other = loop([], [("leave",)])
        put, used = ("put", "x", "a"), ("do", "x", "tell", "a")
        for one, place in (
                (loop([put, used], [used], [used]), ("start", 1)),
                (loop([("do", "x", "say", "a")], [tell("a"), used], [used]), ("turn", 1)),
                (loop([], [], [("if", ("same", "a", "b"), [tell("a")], [put, used, used])]), ("end", 0, "else", 1)),
                (loop([], [("if", ("same", "a", "b"), [("leave",)], [("leave",)]), used]), ("turn", 1))):
            self.assertEqual(self.raised(UsedResult, piped, one, other, "tell").place, place)
            self.assertEqual(self.raised(UsedResult, piped, one, other, Text("tell")).place, place)
        one = loop([], [used])
        self.assertEqual(piped(one, loop(), "say"), one)

    def test_has_leave(self):
        leaves = loop([], [("if", ("ask", "p", "item"), [], [tell("a"), ("leave",)]), ("leave",)])
        place = ("turn", 0, "else", 1)
        self.assertEqual(self.raised(HasLeave, piped, loop(), leaves, "tell").place, place)
        self.assertEqual(self.raised(HasLeave, beside, loop(), leaves).place, place)
        last = loop([], [tell("a"), ("leave",)])
        self.assertEqual(self.raised(HasLeave, beside, last, leaves).place, ("turn", 1))
        self.assertEqual(self.raised(HasLeave, beside, leaves, last).place, place)
        self.assertEqual(piped(last, loop(), "say"), last)
        self.raised(UsedResult, piped, loop([], [("do", "x", "tell", "a")]), leaves, "tell")


def drawn_run(chance, names):
    """A world, items and results that are one and the same thing, whichever deed has them."""
    world = drawn.world(chance, names, chance.randrange(1, 4))
    if world is None:
        return None, None, None
    items = [chance.randrange(world.size) for _ in range(chance.randrange(6))]
    return world, items, [[chance.randrange(world.size)] * 200] * (len(items) + 2)


def plain_piped(one, other, deed, world, items, results):
    """The deeds of one, with those of other over what is handed over in their places."""
    first = plain_deeds(one, world, items, results)[0]
    constants = {name: world.constant(name) for name in world.names.constants}
    state = {"lasting": {}, "left": False}
    given = results[0]

    def section(word, item, done):
        env = {**state["lasting"], **constants, "item": item}
        left = plain_block(other.section(word), (word,), env, world, given, done, [])
        state["left"] = state["left"] or left
        state["lasting"] = {name: env[name] for name in other.lasting()}

    found = []
    for number, row in enumerate(first):
        found.append([])
        if number == 0:
            section("start", None, found[-1])
        for name, values in row:
            if name != deed:
                found[-1].append((name, values))
            elif not state["left"]:
                section("turn", values[0], found[-1])
        if number == len(first) - 1:
            section("end", None, found[-1])
    return found


if __name__ == "__main__":
    unittest.main()
