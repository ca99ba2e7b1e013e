"""Points [30] and [31]: edits of lists, and secrets."""

import itertools
import random

from tests import drawn
from tests.common import LEAVE, Case, ask, call, do, maker, put, same
from tests.odd import Raises, Text, Yes, no_names
from tests.plain import plain_deeds
from tests.plainly import PlainEdits
from unknowncalls.edits import doubled, dropped, exchanged, leaks
from unknowncalls.errors import Forgotten, HasDeeds, NoTest
from unknowncalls.loops import Loop
from unknowncalls.names import Names

NAMES = Names(["a"], {"f": 1, "s": 2, "g": 2}, {"p": 1, "o": 1, "r": 2}, {"t": 1, "d": 0}, {"s": "swaps", "r": "order"})
loop = maker(NAMES)
LAST = loop([put("x", "a")], [put("x", "item")], [do("t", "x")])
GREATEST = loop([put("m", "a")], [ask("r", ["m", "item"], [put("m", "item")])], [do("t", "m")])
AGAIN = [call("v", "f", "a"), call("v", "f", "v")]
DRAWN = drawn.NAMES + [
    Names(["a"], {"f": 1}, {"p": 1, "o": 1}, {"t": 1}), Names(["a"], {"s": 2}, {"p": 1}, {"t": 1}, {"s": "swaps"}),
    Names(["a"], {"h": 1}, {"p": 1, "r": 2}, {"t": 1}, {"h": "settles", "r": "order"})]


class EditCase(Case):
    def check(self, work, one, told, test=None):
        """Checks what is told of an edit by doing the loop over both lists."""
        self.assertIs(told.__class__, tuple)
        world, items, others, results = told
        self.assertEqual((items.__class__, others.__class__, len(results)), (list, list, 2))
        ends = []
        for row in (items, others):
            given = [results[0], *[[] for _ in row], results[1]]
            ends.append(plain_deeds(one, world, row, given)[0])
        self.assertEqual(ends[0][0], ends[1][0])
        self.assertNotEqual(ends[0][-1], ends[1][-1])
        if work is exchanged:
            self.assertIn(others, [items[:at] + [items[at + 1], items[at]] + items[at + 2:] for at in range(len(items) - 1)])
        elif work is doubled:
            self.assertIn(items, [others[:at] + [others[at]] + others[at:] for at in range(len(others))])
        else:
            rows = [items[:at] + items[at + 1:] for at, item in enumerate(items) if world.says(test, [item])]
            self.assertIn(others, rows)
        return len(items)

    def check_leak(self, one, told, test):
        world, items, others, results = told
        self.assertEqual(len(items), len(others))
        done = [plain_deeds(one, world, row, results)[0][:len(results)] for row in (items, others)]
        self.assertEqual(done[0][:-1], done[1][:-1])
        self.assertNotEqual(done[0][-1], done[1][-1])
        for item, other in zip(items, others):
            self.assertEqual([world.says(test, [item]), world.says(test, [other])], [item != other or world.says(test, [item])] * 2)
        return len(items), len(results)


class ExchangedTest(EditCase):
    def test_the_last_one(self):
        self.assertEqual(self.check(exchanged, LAST, exchanged(LAST)), 2)

    def test_the_greatest_one(self):
        self.assertIsNone(exchanged(GREATEST))

    def test_whether_there_was_one(self):
        one = loop([put("x", "a")], [ask("p", ["item"], [call("x", "f", "a")])], [do("t", "x")])
        self.assertIsNone(exchanged(loop=one))

    def test_items_in_front_of_the_edit(self):
        # Only behind an item of which p says yes the order matters.
        one = loop([put("x", "a"), put("y", "a"), call("z", "f", "a")], [
            same("y", "z", [put("x", "item")], [ask("p", ["item"], [put("y", "z")])])], [do("t", "x")])
        self.assertEqual(self.check(exchanged, one, exchanged(one)), 2)
        one = loop([put("x", "a"), put("y", "a"), call("z", "f", "a"), same("a", "z", [put("u", "a")], [put("u", "z")])], [
            same("y", "u", [put("x", "item")], [put("y", "u")])], [do("t", "x")])
        self.assertEqual(self.check(exchanged, one, exchanged(one)), 2)

    def test_items_behind_the_edit(self):
        # The last two are told.
        one = loop([put("x", "a"), put("y", "a"), put("z", "a")], [put("x", "y"), put("y", "z"), put("z", "item")], [do("t", "x")])
        self.assertEqual(self.check(exchanged, one, exchanged(one)), 3)

    def test_calls_that_swap(self):
        # s of the last two items, either way about; of more items the ones ahead matter.
        one = loop([put("x", "a"), put("y", "a")], [put("x", "y"), put("y", "item")], [call("v", "s", "x", "y"), do("t", "v")])
        self.assertEqual(self.check(exchanged, one, exchanged(one)), 3)
        one = loop([put("x", "a"), put("y", "a"), put("n", "a")], [put("x", "y"), put("y", "item"), LEAVE], [
            call("v", "s", "x", "y"), do("t", "v")])
        self.assertEqual(self.check(exchanged, one, exchanged(one)), 2)

    def test_leaves(self):
        one = loop([put("x", "a")], [ask("p", ["item"], [put("x", "item"), LEAVE])], [do("t", "x")])
        self.assertEqual(self.check(exchanged, one, exchanged(one)), 2)
        # It leaves at once, whatever comes.
        one = loop([put("x", "a")], [LEAVE], [do("t", "x")])
        self.assertIsNone(exchanged(one))

    def test_the_end_has_results(self):
        one = loop([("do", "x", "d"), put("y", "x")], [put("x", "item")], [("do", "z", "d"), same("z", "x", [do("t", "y")])])
        self.assertEqual(self.check(exchanged, one, exchanged(one)), 2)

    def test_no_end(self):
        self.assertIsNone(exchanged(loop([put("x", "a")], [put("x", "item")])))
        self.assertIsNone(exchanged(loop()))

    def test_forgotten(self):
        one = loop([], AGAIN)
        self.assertEqual(self.forgets(exchanged, one), (1, ("turn", 0), [([], []), ([], []), ([], [])]))
        one = loop([], [], [])
        self.assertIsNone(exchanged(one))

    def test_forgotten_at_the_end_comes_with_the_edit(self):
        one = loop([*AGAIN, put("v", "a")], [], [call("v", "f", "a"), do("t", "v")])
        side, place, answers = self.forgets(exchanged, one)
        self.assertEqual((side, place, answers), (1, ("end", 0), [([], [])] * 4))
        self.assertEqual(self.forgets(doubled, one)[2], [([], [])] * 4)
        self.assertEqual(self.forgets(dropped, one, "p")[2], [([], [])] * 3)

    def test_parting_goes_ahead_of_forgetting(self):
        one = loop([put("x", "a"), *AGAIN, put("v", "a")], [put("x", "item")], [call("v", "f", "a"), do("t", "x")])
        self.assertEqual(self.forgets(exchanged, one), (1, ("end", 0), [([], [])] * 4))
        one = loop([put("x", "a"), *AGAIN, put("v", "a")], [put("x", "item")], [
            do("t", "x"), ask("p", ["x"], [call("v", "f", "a")], [do("t", "x")])])
        self.assertEqual(self.check(exchanged, one, exchanged(one)), 2)

    def test_in_the_place_where_only_one_leaves(self):
        # The one that leaves at the first item of the edit does not read the second one.
        one = loop([put("x", "a")], [ask("p", ["item"], [LEAVE]), put("x", "item")], [ask("o", ["x"], [do("t", "a")])])
        self.assertEqual(self.check(exchanged, one, exchanged(one)), 2)


class DoubledTest(EditCase):
    def test_the_last_one(self):
        self.assertIsNone(doubled(LAST))
        self.assertIsNone(doubled(loop=GREATEST))

    def test_the_last_but_one(self):
        one = loop([put("x", "a"), put("y", "a")], [put("x", "y"), put("y", "item")], [do("t", "x")])
        self.assertEqual(self.check(doubled, one, doubled(one)), 2)

    def test_each_one_reckoned(self):
        one = loop([put("x", "a")], [call("x", "g", "x", "item")], [do("t", "x")])
        self.assertEqual(self.check(doubled, one, doubled(one)), 2)
        one = loop([put("x", "a")], [call("x", "g", "a", "item")], [do("t", "x")])
        self.assertIsNone(doubled(one))

    def test_leaves(self):
        # The second one is not read any more.
        one = loop([put("x", "a")], [call("x", "g", "x", "item"), LEAVE], [do("t", "x")])
        self.assertIsNone(doubled(one))
        one = loop([put("x", "a")], [same("x", "item", [LEAVE]), put("x", "item")], [do("t", "x")])
        told = doubled(one)
        self.assertEqual(self.check(doubled, one, told), 3)


class DroppedTest(EditCase):
    def test_items_that_are_gone_over(self):
        one = loop([put("x", "a")], [ask("p", ["item"], [], [put("x", "item")])], [do("t", "x")])
        self.assertIsNone(dropped(one, "p"))
        told = dropped(one, "o")
        self.assertEqual(self.check(dropped, one, told, "o"), 1)
        self.assertIs(told[0].says("p", told[1]), False)

    def test_the_last_one(self):
        self.assertEqual(self.check(dropped, LAST, dropped(loop=LAST, test="p"), "p"), 1)

    def test_what_the_test_says_is_known_ahead(self):
        one = loop([put("x", "a")], [ask("p", ["item"], [], [put("x", "item"), LEAVE])], [do("t", "x")])
        self.assertIsNone(dropped(one, "p"))

    def test_leaves(self):
        one = loop([put("x", "a")], [ask("p", ["item"], [LEAVE]), put("x", "item")], [do("t", "x")])
        self.assertEqual(self.check(dropped, one, dropped(one, "p"), "p"), 2)

    def test_a_constant_of_which_it_says_no(self):
        names = Names(["a"], {}, {"p": 1}, {"t": 1}, facts=[("p", ["a"], False)])
        one = Loop(names, [put("x", "a")], [same("item", "a", [put("x", "item")])], [do("t", "x")])
        self.assertIsNone(dropped(one, "p"))
        one = Loop(names, [put("x", "a")], [same("item", "a", [], [put("x", "item")])], [do("t", "x")])
        self.assertEqual(self.check(dropped, one, dropped(one, "p"), "p"), 1)


class LeaksTest(EditCase):
    def test_shown(self):
        one = loop([], [do("t", "item")])
        self.assertEqual(self.check_leak(one, leaks(one, "p"), "p"), (1, 2))
        one = loop([], [ask("p", ["item"], [do("t", "a")], [do("t", "item")])])
        self.assertIsNone(leaks(one, "p"))
        self.assertEqual(self.check_leak(one, leaks(one, "o"), "o"), (1, 2))

    def test_by_what_is_asked_of_them(self):
        one = loop([], [ask("o", ["item"], [do("t", "a")])])
        self.assertEqual(self.check_leak(one, leaks(loop=one, test="p"), "p"), (1, 2))
        one = loop([], [ask("p", ["item"], [do("t", "a")])])
        self.assertIsNone(leaks(one, "p"))

    def test_by_the_end(self):
        one = loop([put("x", "a")], [put("x", "item"), do("t", "a")], [do("t", "x")])
        self.assertEqual(self.check_leak(one, leaks(one, "p"), "p"), (1, 3))
        one = loop([put("x", "a"), put("y", "a")], [put("x", "y"), put("y", "item")], [do("t", "x")])
        self.assertEqual(self.check_leak(one, leaks(one, "p"), "p"), (2, 4))

    def test_in_a_later_turn(self):
        one = loop([put("x", "a")], [do("t", "x"), put("x", "item")])
        self.assertEqual(self.check_leak(one, leaks(one, "p"), "p"), (2, 3))

    def test_whether_they_are_the_same_as_another_one(self):
        one = loop([put("x", "a")], [same("x", "item", [do("d")]), ask("p", ["item"], [], [put("x", "item")])])
        told = leaks(one, "p")
        self.assertEqual(self.check_leak(one, told, "p"), (1, 2))
        names = Names(["a"], {}, {"p": 1}, {"d": 0}, facts=[("p", ["a"], False)])
        one = Loop(names, one.section("start"), one.section("turn"), [])
        self.assertIsNone(leaks(one, "p"))

    def test_leaves(self):
        one = loop([], [ask("o", ["item"], [LEAVE]), do("t", "a")])
        self.assertEqual(self.check_leak(one, leaks(one, "p"), "p"), (1, 2))
        one = loop([put("x", "a")], [ask("p", ["item"], [LEAVE]), do("t", "item")], [do("t", "x")])
        self.assertIsNone(leaks(one, "p"))

    def test_forgotten(self):
        one = loop([], [*AGAIN, do("t", "v")])
        self.assertEqual(self.forgets(leaks, one, "p"), (1, ("turn", 0), [([], []), ([], []), ([], [])]))
        one = loop([], [*AGAIN, do("t", "item")])
        self.assertEqual(self.check_leak(one, leaks(one, "p"), "p"), (1, 2))


class WrongTest(EditCase):
    HAS = loop([do("d")], [ask("p", ["item"], [], [do("t", "item")]), *AGAIN, do("d")], [do("d")])

    def test_has_deeds(self):
        for work in (exchanged, doubled, lambda one: dropped(one, "p")):
            self.assertEqual(self.raised(HasDeeds, work, self.HAS).place, ("turn", 0, "else", 0))
            self.assertIsNone(work(loop([do("d")], [], [do("d")])))
            self.assertEqual(self.forgets(work, loop([], AGAIN))[:2], (1, ("turn", 0)))
        never = loop([], [same("a", "a", [], [("do", "x", "d")])])
        self.assertEqual(self.raised(HasDeeds, exchanged, never).place, ("turn", 0, "else", 0))

    def test_no_test(self):
        for thing in ["r", "f", "t", "a", "x", "q", "same", "item", Raises(), Yes(), None, ["p"], ("p",), 1, b"p", {}] + no_names():
            for work in (dropped, leaks):
                for one in (LAST, self.HAS, loop([], AGAIN)):
                    self.assertIs(self.raised(NoTest, work, one, thing).name, thing)
        one = loop([], [ask("p", ["item"], [do("t", "a")], [do("t", "item")])])
        self.assertIsNone(leaks(one, Text("p")))
        self.assertEqual(self.check(dropped, LAST, dropped(LAST, Text("o")), "o"), 1)

    def test_the_same_each_time(self):
        for work in (exchanged, lambda one: dropped(one, "p"), lambda one: leaks(one, "p")):
            first = work(LAST)
            for part in first[1:]:
                part.clear()
            self.assertEqual(work(LAST), work(loop([put("x", "a")], [put("x", "item")], [do("t", "x")])))
            self.assertNotEqual(work(LAST), first)


class DrawnTest(EditCase):
    def test_drawn(self):
        chance = random.Random(71)
        seen = {}
        for _ in range(200):
            names = chance.choice(DRAWN)
            one = drawn.Drawing(chance, names, ("x", "y", "z")[:chance.randrange(1, 4)], chance.choice([2, 3, 4])).loop(
                2, 2, chance.randrange(3) == 0)
            if chance.randrange(5) == 0:
                one = chance.choice([drawn.sharing, drawn.ordering])(chance)
                names = one.names
            quiet = Loop(names, one.section("start"), without_deeds(one.section("turn")),
                         [do("t", name) for name in one.lasting() if names.deeds().get("t") == 1][:2] or one.section("end"))
            tests = [test for test, many in names.tests().items() if many == 1]
            jobs = [("exchanged", exchanged, None), ("doubled", doubled, None)]
            jobs += [(word, work, test) for test in tests for word, work in (("dropped", dropped), ("leaks", leaks))]
            for word, work, test in jobs:
                kind = self.check_drawn(chance, word, work, test, one if work is leaks else quiet)
                seen[word, kind] = seen.get((word, kind), 0) + 1
        for word in ("exchanged", "doubled", "dropped", "leaks"):
            self.assertGreater(min(seen.get((word, kind), 0) for kind in ("parts", "forgets", "none")), 3, seen)

    def check_drawn(self, chance, word, work, test, one):
        plain = PlainEdits(one, word, test, 50)
        if not plain.is_whole:
            return "large"
        given = (one,) if test is None else (one, test)
        try:
            told = work(*given)
        except Forgotten as error:
            self.assertIsNone(plain.parted)
            turns = len(error.answers) - {"start": 1, "turn": 1, "end": 2}[error.place[0]]
            self.assertEqual(turns, plain.forgotten)
            return "forgets"
        if told is not None:
            turns = self.check(work, one, told, test) if work is not leaks else self.check_leak(one, told, test)[0]
            self.assertEqual(turns, plain.parted)
            return "parts"
        self.assertEqual((plain.parted, plain.forgotten), (None, None))
        self.check_none(chance, word, test, one)
        return "none"

    def check_none(self, chance, word, test, one):
        """No edit of a short list parts the ends in a world of few things."""
        for _ in range(4):
            world = drawn.world(chance, one.names, chance.randrange(1, 4))
            if world is None:
                continue
            first, last = [[chance.randrange(world.size) for _ in range(4)] for _ in range(2)]
            for items in itertools.product(range(world.size), repeat=chance.randrange(1, 4)):
                items = list(items)
                ends = [plain_deeds(one, world, row, [first, *[[] for _ in row], last])[0][-1]
                        for row in [items, *edited(word, world, test, items)]]
                if word == "leaks":
                    results = [[chance.randrange(world.size) for _ in range(4)] for _ in range(len(items) + 2)]
                    ends = [plain_deeds(one, world, row, results)[0] for row in [items, *edited(word, world, test, items)]]
                self.assertEqual([end for end in ends if end != ends[0]], [])


def edited(word, world, test, items):
    """The lists that a list becomes by an edit, or by other secrets."""
    if word == "exchanged":
        return [items[:at] + [items[at + 1], items[at]] + items[at + 2:] for at in range(len(items) - 1)]
    if word == "doubled":
        return [items[:at] + [items[at]] + items[at:] for at in range(len(items))]
    if word == "dropped":
        return [items[:at] + items[at + 1:] for at, item in enumerate(items) if world.says(test, [item])]
    yes = [thing for thing in range(world.size) if world.says(test, [thing])]
    return [list(row) for row in itertools.product(*[yes if item in yes else [item] for item in items])]


def without_deeds(block):
    """The statements with puts of the item instead of deeds whose results are kept, and without the others."""
    found = []
    for statement in block:
        if statement[0] == "if":
            found.append(("if", statement[1], without_deeds(statement[2]), without_deeds(statement[3])))
        elif statement[0] != "do":
            found.append(statement)
        elif statement[1] is not None:
            found.append(put(statement[1], "item"))
    return found


if __name__ == "__main__":
    import unittest
    unittest.main()
