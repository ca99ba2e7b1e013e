"""Points [1] to [3] and [60] over the whole program: its interface, and what is so of all calls."""

import importlib
import inspect
import random

from tests import drawn
from tests.common import Case, ask, call, do, maker, put, same
from unknowncalls import errors
from unknowncalls.dear import dearest, hoisted, turn_costs
from unknowncalls.edits import doubled, dropped, exchanged, leaks
from unknowncalls.errors import CallError, Forgotten
from unknowncalls.keeping import keeping, remedy
from unknowncalls.lassos import lasso
from unknowncalls.leasts import least_world
from unknowncalls.living import Live
from unknowncalls.longs import Long
from unknowncalls.machines import Machine, parting_in
from unknowncalls.names import Names
from unknowncalls.pipes import beside, piped
from unknowncalls.places import mended, needless, never, never_equal, nothing, order_at, settled, sure
from unknowncalls.running import deeds, trace
from unknowncalls.tales import Tale
from unknowncalls.texts import read_loop, write_loop
from unknowncalls.walks import alike, forgetting, parting, table
from unknowncalls.worlds import World

FUNCTIONS = {
    "walks": ["parting(one, other)", "alike(one, other)", "forgetting(one, other)", "table(one, other)"],
    "pipes": ["piped(one, other, deed)", "beside(one, other)"],
    "texts": ["write_loop(loop)", "read_loop(names, text)"],
    "machines": ["parting_in(world, one, other)"],
    "running": ["trace(loop, world, items, results=())", "deeds(loop, world, items, results=())"],
    "leasts": ["least_world(tale)"],
    "places": ["nothing(names)", "never(loop)", "sure(loop, place)", "needless(loop)", "settled(loop)", "mended(loop)",
               "never_equal(loop, place)", "order_at(loop, place, test)"],
    "lassos": ["lasso(loop, deeds=())"],
    "keeping": ["keeping(loop, place)", "remedy(one, other)"],
    "edits": ["exchanged(loop)", "doubled(loop)", "dropped(loop, test)", "leaks(loop, test)"],
    "dear": ["turn_costs(loop, weights)", "dearest(loop, weights)", "hoisted(loop)"],
}
CLASSES = {
    "names": ("Names(constants=(), functions=None, tests=None, deeds=None, rules=None, facts=(), apart=())",
              ["functions()", "tests()", "deeds()", "rules()", "facts()", "apart()", "__eq__(other)"]),
    "loops": ("Loop(names, start, turn, end)", ["section(word)", "registers()", "lasting()", "places()", "__eq__(other)"]),
    "machines": ("Machine(loop, world)", ["begin()", "rows()", "parting(other)", "__len__()", "__eq__(other)"]),
    "longs": ("Long(loop, world, blocks)", ["length()", "many()", "counts()", "nth(n)", "held()"]),
    "worlds": ("World(names, size, constants, functions=None, tests=None)",
               ["constant(name)", "gives(function, things)", "says(test, things)", "__eq__(other)"]),
    "tales": ("Tale(one, other, answers, ended=False)", [
        "many()", "origin(value)", "groups()", "are_equal(value, other)", "held(side, name)", "deeds(side)", "parts()", "world()"]),
    "living": ("Live(one, other)", ["question()", "answer(truth)", "item()", "finish()", "tale()", "forced()", "undo()", "again()",
                                    "tried(work)", "copy()", "so_far()", "is_over()"]),
}
ERRORS = """BadName(name) BadNumber(name) BadRule(name) BadFact(index) BadPair(index) NoWorld() BadStatement(place) NoSection(word)
UnlikeNames() Parted() Forgotten(side,place,answers) BadWorld(word) NoName(name) NoThings(things) NoThing(index) BadResults(index)
BadAnswers(index) Impossible(index,side,at) NoValue(thing) NoRegister(side,name) BadSide(side) TooMany(total) NoPlace(place)
NoConstant() BadTruth(truth) NoQuestion() Unanswered() IsOver() HasDeeds(place) NoTest(name) NoDeed(name) UsedResult(place)
HasLeave(place) BadLine(index) BadMachine(machine) BadBlock(index) BadWeight(name) NoNumber(n)""".split()


def module(name):
    return importlib.import_module("unknowncalls." + name)


def signature(work, name):
    parameters = [row for row in inspect.signature(work).parameters.values() if row.name != "self"]
    return f"{name}({', '.join(str(row) for row in parameters)})"


class InterfaceTest(Case):
    def test_functions(self):
        for name, rows in FUNCTIONS.items():
            for row in rows:
                word = row.partition("(")[0]
                work = getattr(module(name), word)
                self.assertEqual(signature(work, word), row)
                self.assertEqual((work.__class__, work.__module__), (signature.__class__, "unknowncalls." + name))
                kinds = {part.kind for part in inspect.signature(work).parameters.values()}
                self.assertEqual(kinds, {inspect.Parameter.POSITIONAL_OR_KEYWORD})

    def test_classes(self):
        for name, (row, methods) in CLASSES.items():
            word = row.partition("(")[0]
            kind = getattr(module(name), word)
            self.assertEqual(signature(kind.__init__, word), row)
            self.assertEqual(kind.__module__, "unknowncalls." + name)
            for method in methods:
                part = method.partition("(")[0]
                self.assertEqual(signature(vars(kind)[part], part), method)

    def test_errors(self):
        told = {word for word, kind in vars(errors).items() if isinstance(kind, type)}
        self.assertEqual(told, {row.partition("(")[0] for row in ERRORS} | {"CallError"})
        self.assertEqual(CallError.__bases__, (ValueError,))
        for row in ERRORS:
            word, _, rest = row.rstrip(")").partition("(")
            names = [name for name in rest.split(",") if name]
            kind = getattr(errors, word)
            self.assertEqual(kind.__bases__, (CallError,))
            things = [object() for _ in names]
            error = kind(*things)
            self.assertEqual(vars(error), dict(zip(names, things)))


NAMES = Names(["a", "b"], {"f": 1, "g": 2}, {"p": 1, "r": 2}, {"t": 1, "d": 0}, {"r": "order"}, [("p", ["a"], True)], [("a", "b")])
loop = maker(NAMES)
ONE = loop([put("x", "a"), call("y", "f", "x")], [
    same("item", "x", [call("y", "f", "x")], [ask("p", ["item"], [put("x", "item")])]), call("y", "f", "x")], [do("t", "y")])
TELLING = loop([put("x", "a"), call("y", "f", "x")], [ask("r", ["item", "x"], [do("t", "y")], [do("t", "item")])], [do("t", "x")])
WORLD = World(NAMES, 3, {"a": 0, "b": 1}, {"f": {(0,): 1, (1,): 2}}, {"p": [(0,), (2,)]})
WEIGHTS = {"f": 2, "same": 1}


def calls():
    """Calls of all functions: the work, its arguments by name."""
    tale = Tale(ONE, ONE, [([], []), ([False, True], [False, True])])
    return [
        (parting, {"one": ONE, "other": TELLING}), (alike, {"one": ONE, "other": ONE}), (forgetting, {"one": ONE, "other": TELLING}),
        (table, {"one": ONE, "other": ONE}), (piped, {"one": TELLING, "other": ONE, "deed": "t"}), (beside, {"one": ONE, "other": ONE}),
        (write_loop, {"loop": ONE}), (read_loop, {"names": NAMES, "text": write_loop(ONE)}),
        (parting_in, {"world": WORLD, "one": ONE, "other": TELLING}),
        (trace, {"loop": ONE, "world": WORLD, "items": [0, 1], "results": [[], [0]]}),
        (deeds, {"loop": TELLING, "world": WORLD, "items": [0, 1], "results": [[1]]}), (least_world, {"tale": tale}),
        (nothing, {"names": NAMES}), (never, {"loop": ONE}), (sure, {"loop": ONE, "place": ("turn", 1)}), (needless, {"loop": ONE}),
        (settled, {"loop": TELLING}), (mended, {"loop": ONE}), (never_equal, {"loop": ONE, "place": ("end", 0)}),
        (order_at, {"loop": TELLING, "place": ("turn", 0, "then", 0), "test": "r"}), (lasso, {"loop": TELLING, "deeds": ["t"]}),
        (lasso, {"loop": ONE, "deeds": ["t"]}), (keeping, {"loop": ONE, "place": ("turn", 1)}), (remedy, {"one": ONE, "other": TELLING}),
        (exchanged, {"loop": ONE}), (doubled, {"loop": ONE}), (dropped, {"loop": ONE, "test": "p"}),
        (leaks, {"loop": TELLING, "test": "p"}), (turn_costs, {"loop": ONE, "weights": WEIGHTS}),
        (dearest, {"loop": ONE, "weights": WEIGHTS}), (hoisted, {"loop": ONE}),
        (Long, {"loop": TELLING, "world": WORLD, "blocks": [([0, 1], 3), ([2], 10 ** 30)]}),
        (Machine, {"loop": TELLING, "world": WORLD}), (Live, {"one": ONE, "other": ONE}),
    ]


def shown(told):
    """What is told, for comparing: of objects that are not compared what they tell."""
    if isinstance(told, Long):
        return told.length(), told.many(), told.counts(), told.held(), told.nth(5)
    if isinstance(told, Live):
        return told.question(), told.so_far()
    return told


class CallTest(Case):
    def test_by_position_or_by_name(self):
        for work, given in calls():
            self.assertEqual(shown(work(*given.values())), shown(work(**given)), work)
            if len(given) > 1:
                first, *rest = given
                self.assertEqual(shown(work(given[first], **{name: given[name] for name in rest})), shown(work(**given)), work)

    def test_lists_or_tuples(self):
        def turned(thing):
            if isinstance(thing, list):
                return tuple(turned(part) for part in thing)
            return [turned(part) for part in thing] if isinstance(thing, tuple) else thing

        for work, given in calls():
            other = {name: turned(thing) for name, thing in given.items()}
            self.assertEqual(shown(work(**other)), shown(work(**given)), work)

    def test_the_same_each_time_also_when_made_anew(self):
        for (work, given), (_, again) in zip(calls(), calls()):
            told = shown(work(**given))
            self.assertEqual(told, shown(work(**given)))
            names = Names(NAMES.constants, NAMES.functions(), NAMES.tests(), NAMES.deeds(), NAMES.rules(), NAMES.facts(), NAMES.apart())
            for name, thing in again.items():
                if name in ("loop", "one", "other"):
                    again[name] = maker(names)(*[thing.section(word) for word in ("start", "turn", "end")])
            self.assertEqual(told, shown(work(**again)), work)

    def test_what_is_told_is_new(self):
        for work, given in calls():
            first = shown(work(**given))
            before = repr(first)
            spoiled(first)
            self.assertEqual(repr(shown(work(**given))) == before, " at 0x" not in before, work)

    def test_what_is_passed_is_not_changed(self):
        for work, given in calls():
            before = {name: repr(thing) for name, thing in given.items()}
            work(**given)
            self.assertEqual({name: repr(thing) for name, thing in given.items()}, before)

    def test_answers_of_a_forgotten_run_are_new(self):
        one = loop([], [call("v", "f", "a"), call("v", "f", "v")])
        for work in (lambda: alike(one, one), lambda: never(one), lambda: exchanged(one), lambda: leaks(one, "p")):
            side, place, answers = self.forgets(work)
            answers[0][0].append(True)
            answers.clear()
            self.assertEqual(self.forgets(work), (1, ("turn", 0), [([], [])] * 3))

    def test_one_of_three_answers(self):
        chance = random.Random(91)
        seen = {}
        for _ in range(150):
            one, other = drawn.pair(chance)
            try:
                told = parting(one, other)
            except Forgotten:
                kind = "forgets"
                self.forgets(table, one, other)
            else:
                kind = "alike" if told is None else "parts"
                if told is None:
                    self.assertGreater(len(table(one, other)), 0)
                else:
                    self.assertNotEqual(*[deeds(row, *told) for row in (one, other)])
            seen[kind] = seen.get(kind, 0) + 1
        self.assertEqual(len(seen), 3)


def spoiled(thing):
    """Changes all lists and dicts that are in a thing."""
    if isinstance(thing, (list, tuple)):
        for part in thing:
            spoiled(part)
    if isinstance(thing, dict):
        for part in thing.values():
            spoiled(part)
    if isinstance(thing, (list, dict)):
        thing.clear()


class ExampleTest(Case):
    """Points [50] to [52], word for word."""

    NAMES = Names(["a"], {"f": 1}, {}, {"tell": 1})

    def test_last_item_kept(self):
        made = maker(self.NAMES)
        start = [put("k", "a"), call("v", "f", "a")]
        one = made(start, [same("item", "k", [], [call("v", "f", "item"), put("k", "item")]), do("tell", "v")])
        two = made([], [call("v", "f", "item"), do("tell", "v")])
        self.assertIs(alike(one, two), True)
        pictures = table(one, two)
        first = ((False, False), (((1, "k"), (0, "a")), ((1, "v"),)), (2, 0), (("f", (0,), 1),), (), (), (), (), ())
        unlike = ((False, False), (((1, "k"),), ((1, "v"),), ((0, "a"),)), (2, 0, 2), (("f", (0,), 1),), (), ((0, 2),), (), (), ())
        maybe = ((False, False), (((1, "k"),), ((1, "v"),), ((0, "a"),)), (2, 0, 2), (("f", (0,), 1),), (), (), (), (), ())
        self.assertEqual(len(pictures), 3)
        self.assertEqual(set(pictures), {first, unlike, maybe})
        one = made(start, [same("item", "k", [], [call("v", "f", "item")]), do("tell", "v")])
        world, items, results = parting(one, two)
        self.assertEqual(len(items), 2)
        self.assertNotEqual(deeds(one, world, items, results), deeds(two, world, items, results))

    def test_forgotten(self):
        made = maker(self.NAMES)
        one = made([], [call("v", "f", "a"), call("v", "f", "v"), do("tell", "v")])
        for other in (one, nothing(self.NAMES), made([], [do("tell", "a")])):
            self.assertEqual(forgetting(one, other), (1, ("turn", 0), [([], []), ([], []), ([], [])]))
        self.assertEqual(self.forgets(alike, one, one), (1, ("turn", 0), [([], []), ([], []), ([], [])]))
        one = made([], [call("v", "f", "a"), do("tell", "v")])
        self.assertIs(alike(one, one), True)

    def test_calls_within_calls(self):
        one = read_loop(self.NAMES, "start\nturn\n  do tell(f(f(item)))\nend\n")
        self.assertEqual(one.section("turn"), [("call", "ha", "f", "item"), ("call", "hb", "f", "ha"), ("do", None, "tell", "hb")])
        two = piped(one, one, "tell")
        four = read_loop(self.NAMES, "start\nturn\n  do tell(f(f(f(f(item)))))\nend\n")
        self.assertIs(alike(two, four), True)


if __name__ == "__main__":
    import unittest
    unittest.main()
