"""Points [19] to [21]: tales, what is known in them, their worlds, and what is no tale."""

import itertools
import random
import unittest

from tests import drawn
from tests.odd import Raises, Text, no_names, no_texts, no_texts_but_lists, own_list
from tests.plain import Cannot, Section, first_state, plain_deeds
from unknowncalls.errors import BadAnswers, BadSide, Impossible, NoRegister, NoValue, UnlikeNames
from unknowncalls.loops import Loop
from unknowncalls.names import Names
from unknowncalls.tales import Tale
from unknowncalls.worlds import World

NAMES = Names(["a", "b"], {"f": 1, "s": 2, "h": 1}, {"p": 1, "q": 2, "r": 2}, {"t": 1, "d": 0},
              {"s": "swaps", "h": "settles", "q": "both", "r": "order"})


def loop(start=(), turn=(), end=(), names=NAMES):
    return Loop(names, start, turn, end)


def both(many, first=(), second=()):
    """Answers for so many sections, these in the last one."""
    return [([], []) for _ in range(many - 1)] + [(list(first), list(second))]


NOTHING = loop()


class Case(unittest.TestCase):
    def raised(self, error, work, *told, **more):
        with self.assertRaises(error) as caught:
            work(*told, **more)
        self.assertIs(caught.exception.__class__, error)
        return caught.exception

    def impossible(self, one, other, answers, ended=False):
        error = self.raised(Impossible, Tale, one, other, answers, ended)
        return (error.index, error.side, error.at)


class ValuesTest(Case):
    def test_values_in_the_order_in_which_they_are_made(self):
        one = loop([("call", "x", "f", "a"), ("do", "y", "d")],
                   [("call", "x", "f", "item"), ("do", None, "t", "x"), ("do", "y", "d")], [("call", "z", "f", "y")])
        two = loop([("do", "y", "d"), ("do", "x", "d"), ("call", "z", "f", "b")], [("do", "w", "t", "item")])
        tale = Tale(one, two, both(4), ended=True)
        self.assertEqual([tale.origin(value) for value in range(tale.many())], [
            ("constant", "a"), ("constant", "b"),
            ("call", "f", (0,)), ("result", 0, 0), ("result", 0, 1), ("call", "f", (1,)),
            ("item", 1), ("call", "f", (6,)), ("result", 1, 0), ("result", 1, 1),
            ("item", 2), ("call", "f", (10,)), ("result", 2, 0), ("result", 2, 1),
            ("call", "f", (13,)),
        ])
        self.assertEqual(tale.groups(), [(value,) for value in range(15)])
        self.assertEqual(tale.deeds(1), [
            [("d", ())], [("t", (7,)), ("d", ())], [("t", (11,)), ("d", ())], []])
        self.assertEqual(tale.deeds(side=2), [[("d", ()), ("d", ())], [("t", (6,))], [("t", (10,))], []])
        self.assertEqual(tale.parts(), 0)

    def test_constants_alone(self):
        tale = Tale(NOTHING, NOTHING, [([], [])])
        self.assertEqual((tale.many(), tale.groups(), tale.deeds(1), tale.parts()), (2, [(0,), (1,)], [[]], None))

    def test_nothing_at_all(self):
        empty = Loop(Names(), [], [], [])
        tale = Tale(empty, empty, [([], [])])
        self.assertEqual((tale.many(), tale.groups()), (0, []))
        self.assertEqual(tale.world(), (World(Names(), 1, {}), [], [[]]))

    def test_a_known_call_makes_none(self):
        one = loop([("call", "x", "s", "a", "b"), ("call", "y", "s", "b", "a"), ("call", "z", "s", "a", "b")])
        two = loop([("call", "x", "s", "b", "a"), ("call", "y", "s", "b", "b")])
        tale = Tale(one, two, [([], [])])
        self.assertEqual([tale.origin(value) for value in (2, 3)], [("call", "s", (0, 1)), ("call", "s", (1, 1))])
        self.assertEqual(tale.many(), 4)
        self.assertEqual([tale.held(1, name) for name in "xyz"], [2, 2, 2])

    def test_values_of_a_call_as_they_were_handed(self):
        tale = Tale(loop([("call", "x", "s", "b", "a")]), NOTHING, [([], [])])
        self.assertEqual(tale.origin(2), ("call", "s", (1, 0)))

    def test_a_call_of_an_equal_value_makes_none(self):
        one = loop([("call", "x", "f", "a")], [("if", ("same", "item", "a"), [("call", "y", "f", "item")], [])])
        tale = Tale(one, NOTHING, both(2, [True]))
        self.assertEqual(tale.many(), 4)
        self.assertEqual(tale.groups(), [(0, 3), (1,), (2,)])
        tale = Tale(one, NOTHING, both(2, [False]))
        self.assertEqual(tale.many(), 4)
        self.assertIs(tale.are_equal(0, 3), False)

    def test_one_that_settles(self):
        one = loop([("call", "x", "h", "a"), ("call", "y", "h", "x"), ("call", "z", "h", "y")])
        tale = Tale(one, NOTHING, [([], [])])
        self.assertEqual(tale.many(), 3)
        self.assertEqual((tale.held(1, "x"), tale.held(1, "z")), (2, 2))

    def test_facts_make_none(self):
        names = Names(["a", "b", "c"], {"f": 1, "h": 1, "s": 2}, {}, {}, {"h": "settles", "s": "swaps"},
                      [("f", ["a"], "b"), ("h", ["b"], "c"), ("s", ["a", "b"], "a"), ("f", ["c"], "a"), ("f", ["a"], "c")])
        one = loop([("call", "x", "f", "a"), ("call", "y", "h", "c"), ("call", "z", "s", "b", "a")], names=names)
        tale = Tale(one, one, [([], [])])
        self.assertEqual(tale.many(), 3)
        self.assertEqual(tale.groups(), [(0,), (1, 2)])
        self.assertEqual([tale.held(2, name) for name in "xyz"], [1, 1, 0])

    def test_values_of_calls_by_what_is_known_in_the_end(self):
        one = loop([("do", "x", "d"), ("do", "y", "d"), ("call", "z", "f", "y"),
                    ("if", ("same", "x", "y"), [], [])])
        self.assertEqual(Tale(one, NOTHING, [([True], [])]).origin(4), ("call", "f", (2,)))
        self.assertEqual(Tale(one, NOTHING, [([False], [])]).origin(4), ("call", "f", (3,)))

    def test_items_are_made_behind_a_leave_of_both(self):
        one = loop([], [("leave",)], [("do", None, "d")])
        tale = Tale(one, one, both(5), True)
        self.assertEqual([tale.origin(value) for value in range(2, 5)], [("item", 1), ("item", 2), ("item", 3)])
        self.assertEqual(tale.deeds(1), [[], [], [], [], [("d", ())]])
        self.assertEqual(tale.world()[1], [2, 3, 4])

    def test_no_value(self):
        tale = Tale(NOTHING, NOTHING, [([], [])])
        for thing in [-1, 2, 10 ** 40, -2, *no_names()]:
            if isinstance(thing, int) and not isinstance(thing, bool) and thing in (0, 1):
                continue
            self.assertIs(self.raised(NoValue, tale.origin, thing).thing, thing)
            self.assertIs(self.raised(NoValue, tale.are_equal, thing, Raises()).thing, thing)
            self.assertIs(self.raised(NoValue, tale.are_equal, 0, thing).thing, thing)


class KnownTest(Case):
    def test_are_equal(self):
        one = loop([("do", "x", "d"), ("do", "y", "d"), ("do", "z", "d"), ("if", ("same", "x", "y"), [], []),
                    ("if", ("same", "y", "z"), [], [])])
        tale = Tale(one, NOTHING, [([True, False], [])])
        self.assertIs(tale.are_equal(2, 3), True)
        self.assertIs(tale.are_equal(value=3, other=4), False)
        self.assertIs(tale.are_equal(4, 2), False)
        self.assertIs(tale.are_equal(0, 1), None)
        self.assertIs(tale.are_equal(4, 0), None)
        self.assertIs(tale.are_equal(4, 4), True)

    def test_unlike_as_a_world_that_has_them_equal_is_none(self):
        one = loop([("call", "x", "f", "a"), ("call", "y", "f", "b"), ("if", ("same", "x", "y"), [], []),
                    ("if", ("ask", "p", "a"), [], []), ("if", ("ask", "p", "x"), [], [])])
        tale = Tale(one, NOTHING, [([False, True, False], [])])
        self.assertIs(tale.are_equal(0, 1), False)
        self.assertIs(tale.are_equal(0, 2), False)
        self.assertIs(tale.are_equal(1, 2), None)

    def test_an_order_that_is_not_strict_joins(self):
        one = loop([("do", "x", "d"), ("do", "y", "d"), ("do", "z", "d"), ("call", "u", "f", "x"), ("call", "v", "f", "z"),
                    ("if", ("ask", "r", "x", "y"), [], []), ("if", ("ask", "r", "y", "z"), [], []),
                    ("if", ("ask", "r", "z", "x"), [], [])])
        self.assertEqual(Tale(one, NOTHING, [([False] * 3, [])]).groups(), [(0,), (1,), (2, 3, 4), (5, 6)])
        tale = Tale(one, NOTHING, [([False, False, True], [])])
        self.assertEqual(tale.groups(), [(value,) for value in range(7)])
        self.assertIs(tale.are_equal(2, 4), False)
        self.assertIs(tale.are_equal(2, 3), None)
        self.assertEqual(self.impossible(one, NOTHING, [([True, True, True], [])]), (0, 1, 2))

    def test_held(self):
        one = loop([("put", "x", "a"), ("if", ("same", "a", "b"), [("put", "y", "a")], [])],
                   [("put", "x", "item"), ("put", "z", "b")], [("put", "x", "b"), ("put", "w", "a")])
        two = loop([("put", "z", "b")])
        self.assertEqual(Tale(one, two, [([False], [])]).held(1, "x"), 0)
        self.assertEqual(Tale(one, two, [([True], [])]).held(2, "z"), 0)
        self.assertEqual(Tale(one, two, [([False], []), ([], [])]).held(side=1, name="x"), 2)
        tale = Tale(one, two, [([False], []), ([], []), ([], [])], True)
        self.assertEqual((tale.held(1, "x"), tale.held(2, Text("z"))), (1, 1))
        for side, name in [(1, "y"), (1, "z"), (1, "w"), (2, "x"), (2, "a"), (1, "a"), (1, "item"), (0, "x"), (3, "z"),
                           (True, "x"), ("1", "x"), *[(1, thing) for thing in no_names()],
                           *[(thing, "x") for thing in no_names() if not isinstance(thing, int) or thing != 1]]:
            error = self.raised(NoRegister, tale.held, side, name)
            self.assertIs(error.side, side)
            self.assertIs(error.name, name)

    def test_bad_side(self):
        tale = Tale(NOTHING, NOTHING, [([], [])])
        for thing in [0, 3, -1, True, "1", 1.0, *[thing for thing in no_names() if not isinstance(thing, int)]]:
            self.assertIs(self.raised(BadSide, tale.deeds, thing).side, thing)

    def test_parts(self):
        one = loop([("do", None, "d")], [("if", ("ask", "p", "item"), [("do", None, "t", "item")], [])], [("do", None, "t", "a")])
        two = loop([("do", None, "d")], [("do", None, "t", "item")], [("do", None, "t", "b")])
        self.assertIsNone(Tale(one, two, [([], []), ([True], [])]).parts())
        self.assertEqual(Tale(one, two, [([], []), ([True], []), ([False], []), ([True], [])]).parts(), 2)
        self.assertEqual(Tale(one, two, [([], []), ([True], []), ([], [])], True).parts(), 2)
        self.assertIsNone(Tale(one, two, [([], [])]).parts())
        same = loop([("if", ("same", "a", "b"), [], [])], [], [("do", None, "t", "b")])
        self.assertIsNone(Tale(loop([], [], [("do", None, "t", "a")]), same, [([], [True]), ([], [])], True).parts())

    def test_what_is_told_is_new(self):
        tale = Tale(loop([("do", "x", "d")]), NOTHING, [([], [])])
        for tell in (tale.groups, lambda: tale.deeds(1), lambda: tale.deeds(1)[0], lambda: tale.world()[2]):
            before = tell()
            tell().append("new")
            self.assertEqual(tell(), before)

    def test_what_was_passed_may_change_later(self):
        one = loop([("if", ("ask", "p", "a"), [("do", None, "d")], [])])
        answers = [([True], [])]
        tale = Tale(one, NOTHING, answers)
        answers[0][0].append(False)
        answers.append(None)
        self.assertEqual(tale.deeds(1), [[("d", ())]])

    def test_tuples_and_positions(self):
        one = loop([("if", ("ask", "p", "a"), [], [])])
        tale = Tale(other=NOTHING, one=one, ended=True, answers=(([True], ()), [(), []]))
        self.assertEqual(tale.many(), 2)


class BadAnswersTest(Case):
    def bad(self, answers, index, one=NOTHING, other=NOTHING, ended=False):
        error = self.raised(BadAnswers, Tale, one, other, answers, ended)
        self.assertEqual(error.index, index)

    def test_no_list(self):
        for thing in [*no_texts(), None, "", "a", [], ()]:
            self.bad(thing, 0)
            self.bad(thing, 0, ended=True)

    def test_no_pair(self):
        wrong = [*no_texts(), *no_texts_but_lists(), "", "ab", [[]], [[], [], []], [[], None], ["", ""], [[], {}]]
        wrong += [([thing], []) for thing in [0, 1, None, "", Raises(), [], (True,)]]
        for thing in wrong:
            self.bad([thing, Raises()], 0, ended=True)
            self.bad([thing], 0, ended=True)
            self.bad([([], []), thing], 1)
            self.bad([([], []), thing], 1, ended=True)
        self.bad([own_list()], 0)

    def test_too_few_or_too_many(self):
        inner = ("if", ("ask", "p", "item"), [("if", ("same", "a", "item"), [], [("leave",)])], [])
        one = loop([("if", ("ask", "p", "a"), [("if", ("ask", "p", "b"), [], [])], [])], [inner], [("if", ("ask", "p", "a"), [], [])])
        for answers in ([], [True], [False, True], [True, True, True]):
            self.bad([(answers, [])], 0, one)
            self.bad([([], answers)], 0, NOTHING, one)
        self.bad([([False], [True])], 0, one)
        start = ([False], [])
        Tale(one, NOTHING, [start, ([True, False], []), ([], []), ([], [])])
        self.bad([start, ([True, False], []), ([True, True], [])], 2, one)
        self.bad([start, ([True, False], []), ([False], [])], 2, one)
        self.bad([start, ([True, True], []), ([], [])], 2, one)
        self.bad([start, ([], [])], 1, one, ended=True)
        Tale(one, NOTHING, [start, ([False], [])], True)
        Tale(one, NOTHING, [start, ([True, False], []), ([], []), ([False], [])], True)
        self.bad([start, ([True, False], []), ([], [])], 2, one, ended=True)
        self.bad([start, ([True, False], []), ([], [True]), ([], [])], 2, one, ended=True)

    def test_one_section_alone_that_is_ended(self):
        self.bad([([], [])], 1, ended=True)
        self.bad([([True], [])], 0, ended=True)
        self.bad([([], [])], 0, loop([("if", ("ask", "p", "a"), [], [])]), ended=True)

    def test_ahead_of_what_is_impossible_and_behind_unlike_names(self):
        one = loop([("if", ("same", "a", "a"), [], [])])
        self.bad([([False], []), None], 1, one)
        self.assertEqual(self.impossible(one, NOTHING, [([False], [])]), (0, 1, 0))
        other = Loop(Names(["a"]), [], [], [])
        for pair in ((NOTHING, other), (other, NOTHING)):
            self.raised(UnlikeNames, Tale, *pair, None)


class ImpossibleTest(Case):
    def test_the_first_answer(self):
        ask = ("if", ("ask", "p", "a"), [], [])
        one, two = loop([ask, ask], [ask], [ask]), loop([], [ask, ask], [ask])
        right = ([True, True], [])
        self.assertEqual(self.impossible(one, two, [([True, False], [])]), (0, 1, 1))
        self.assertEqual(self.impossible(one, two, [right, ([True], [True, False])]), (1, 2, 1))
        self.assertEqual(self.impossible(one, two, [right, ([False], [False, False])]), (1, 1, 0))
        self.assertEqual(self.impossible(one, two, [right, ([True], [True, True]), ([True], [False])], True), (2, 2, 0))
        Tale(one, two, [right, ([True], [True, True]), ([True], [True])], True)

    def ifs(self, *tests, ahead=()):
        return loop([("do", "x", "d"), ("do", "y", "d"), ("do", "z", "d"), *ahead,
                     *[("if", test, [], []) for test in tests]])

    def test_each_rule(self):
        same, ask = ("same", "x", "y"), "ask"
        calls = [("call", "u", "f", "x"), ("call", "v", "f", "y")]
        swaps = [("call", "u", "s", "x", "y"), ("call", "v", "s", "y", "z")]
        settles = [("call", "u", "h", "x")]
        for tests, answers, ahead in (
                ([same, ("same", "y", "x")], [True, False], ()),
                ([same, ("same", "y", "x")], [False, True], ()),
                ([same, ("same", "y", "z"), ("same", "x", "z")], [True, True, False], ()),
                ([same, ("same", "y", "z"), ("same", "x", "z")], [False, True, True], ()),
                ([(ask, "p", "x"), same, (ask, "p", "y")], [True, True, False], ()),
                ([(ask, "p", "x"), (ask, "p", "y"), same], [True, False, True], ()),
                ([(ask, "q", "x", "y"), (ask, "q", "y", "x")], [True, False], ()),
                ([same, ("same", "u", "v")], [True, False], calls),
                ([("same", "u", "v"), same], [False, True], calls),
                ([("same", "x", "z"), ("same", "u", "v")], [True, False], swaps),
                ([("same", "u", "y"), ("same", "v", "u")], [True, False], settles + [("call", "v", "h", "y")]),
                ([(ask, "r", "x", "x")], [True], ()),
                ([(ask, "r", "x", "y"), same], [True, True], ()),
                ([(ask, "r", "x", "y"), (ask, "r", "y", "x")], [True, True], ()),
                ([(ask, "r", "x", "y"), (ask, "r", "y", "z"), (ask, "r", "x", "z")], [True, True, False], ()),
                ([(ask, "r", "x", "y"), (ask, "r", "y", "z"), (ask, "r", "x", "z")], [False, False, True], ()),
                ([same, (ask, "r", "x", "y"), (ask, "r", "y", "x")], [False, False, False], ()),
        ):
            one = self.ifs(*tests, ahead=ahead)
            expected = (0, 1, len(answers) - 1)
            self.assertEqual(self.impossible(one, NOTHING, [(answers, [])]), expected, (tests, answers))

    def test_not_impossible(self):
        for tests, answers in (
                ([("ask", "r", "x", "x")], [False]), ([("ask", "q", "x", "x")], [True]),
                ([("ask", "r", "x", "y"), ("ask", "r", "y", "x")], [False, True]),
                ([("ask", "p", "x"), ("ask", "p", "y")], [True, False]),
                ([("ask", "r", "x", "y"), ("ask", "r", "y", "z"), ("ask", "r", "x", "z")], [True, False, False]),
                ([("ask", "r", "x", "y"), ("ask", "r", "y", "z"), ("ask", "r", "z", "x")], [False, False, True])):
            Tale(self.ifs(*tests), NOTHING, [(answers, [])])

    def test_facts_and_pairs(self):
        names = Names(["a", "b", "c"], {}, {"p": 1, "r": 2}, {}, {"r": "order"},
                      [("p", ["a"], True), ("r", ["a", "b"], True)], [("b", "c")])
        for test, wrong in (
                (("ask", "p", "a"), False), (("ask", "r", "a", "b"), False), (("ask", "r", "b", "a"), True),
                (("same", "a", "b"), True), (("same", "b", "c"), True)):
            one = loop([("if", test, [], [])], names=names)
            self.assertEqual(self.impossible(one, one, [([not wrong], [wrong])]), (0, 2, 0))
            Tale(one, one, [([not wrong], [not wrong])])


class DrawnTest(Case):
    """Tales of runs that are drawn, against what is gathered plainly, and done in their worlds."""

    def test_drawn(self):
        chance = random.Random(19)
        seen = {"tale": 0, "impossible": 0, "parts": 0, "None": 0, "False": 0, "ended": 0}
        for _ in range(700):
            names = chance.choice(drawn.NAMES)
            drawing = drawn.Drawing(chance, names, ("x", "y", "z"), 5, 3)
            one, other = drawing.loop(), drawing.loop()
            sections, ended = chance.randrange(1, 6), chance.randrange(2) == 1
            told = self.told(chance, one, other, sections, ended)
            if told is None:
                continue
            answers, state, deeds, wrong = told
            ended = ended and len(answers) == sections + 1
            if wrong is not None:
                seen["impossible"] += 1
                self.assertEqual(self.impossible(one, other, answers, ended), wrong)
                continue
            seen["tale"] += 1
            seen["ended"] += ended
            tale = Tale(one, other, answers, ended)
            self.check(tale, state, deeds, seen)
            self.check_world(tale, one, other, answers, ended)
        self.assertGreater(min(seen.values()), 30, seen)

    def told(self, chance, one, other, sections, ended):
        """Answers that are drawn one by one, with all that is known behind them."""
        state, constants = first_state(one.names)
        holders, left, answers, deeds = dict(constants), (False, False), [], []
        for index in range(sections + ended):
            word = "start" if not index else "end" if index == sections else "turn"
            truths = []
            while True:
                section = Section((one, other), state.copy(), holders, left, word)
                try:
                    found = section.run(truths)
                except Cannot:
                    told = section.told
                    answers.append((told[0] + self.rest(one, word, left, 0, told),
                                    told[1] + self.rest(other, word, left, 1, told)))
                    return answers, None, None, (index, section.side + 1, len(told[section.side]) - 1)
                if found is None:
                    break
                truths.append(chance.randrange(2) == 1)
            state, left = section.state, tuple(section.left)
            answers.append(section.told)
            deeds.append(section.deeds)
            holders = {(side + 1, name): worth for side in (0, 1) for name, worth in section.envs[side].items()}
            holders.update(constants)
        return answers, state, deeds, None

    def rest(self, told_loop, word, left, side, told):
        """Answers, all of them no, for what comes behind the ones that are told of a section."""
        if word == "turn" and left[side]:
            return []
        answers = list(told[side])
        self.follow(told_loop.section(word), answers, len(answers))
        return answers[len(told[side]):]

    def follow(self, block, answers, many):
        """Goes through statements by the answers, adds no for what lacks; returns what is used, or left."""
        self.used = 0
        return self.follow_block(block, answers)

    def follow_block(self, block, answers):
        for statement in block:
            if statement[0] == "leave":
                return True
            if statement[0] == "if":
                if self.used == len(answers):
                    answers.append(False)
                truth = answers[self.used]
                self.used += 1
                if self.follow_block(statement[2 if truth else 3], answers):
                    return True
        return False

    def check(self, tale, state, deeds, seen):
        self.assertEqual(tale.many(), len(state.values))
        groups = sorted({tuple(sorted(group)) for group in state.group.values()})
        self.assertEqual(tale.groups(), groups)
        for one, other in itertools.product(range(min(tale.many(), 7)), repeat=2):
            told = tale.are_equal(one, other)
            if told is not True:
                seen[str(told)] += 1
            expected = True if state.eq(one, other) else False if state.cannot_be_equal(one, other) else None
            self.assertIs(told, expected)
        for side in (1, 2):
            expected = [[(deed, tuple(min(state.group[value]) for value in values)) for deed, values in row[side - 1]]
                        for row in deeds]
            self.assertEqual(tale.deeds(side), expected)
        parted = [index for index, (done, others) in enumerate(zip(tale.deeds(1), tale.deeds(2))) if done != others]
        self.assertEqual(tale.parts(), parted[0] if parted else None)
        seen["parts"] += bool(parted)

    def check_world(self, tale, one, other, answers, ended):
        world, items, results = tale.world()
        groups = tale.groups()
        thing = {value: at for at, group in enumerate(groups) for value in group}
        self.assertEqual(world.size, max(len(groups), 1))
        self.assertEqual(world.names, one.names)
        for value in range(tale.many()):
            origin = tale.origin(value)
            if origin[0] == "constant":
                self.assertEqual(world.constant(origin[1]), thing[value])
            elif origin[0] == "call":
                self.assertEqual(world.gives(origin[1], [thing[part] for part in origin[2]]), thing[value])
            elif origin[0] == "item":
                self.assertEqual(items[origin[1] - 1], thing[value])
            else:
                self.assertEqual(results[origin[1]][origin[2]], thing[value])
        self.assertEqual(len(results), len(answers))
        self.assertEqual(len(items), len(answers) - 1 - ended)
        for side, told in ((1, one), (2, other)):
            done, traces = plain_deeds(told, world, items, results)
            expected = [[(deed, tuple(thing[value] for value in values)) for deed, values in row]
                        for row in tale.deeds(side)]
            self.assertEqual(done[:len(answers)], expected)
            said = [[truth for place, truth in trace if isinstance(truth, bool)] for trace in traces]
            self.assertEqual(said[:len(answers)], [list(pair[side - 1]) for pair in answers])


if __name__ == "__main__":
    unittest.main()
