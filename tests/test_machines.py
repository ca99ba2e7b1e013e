"""Points [44] and [45]: loops in one world."""

import itertools
import random
import unittest

from tests import drawn
from tests.odd import Raises, Yes, no_names
from tests.plain import plain_deeds
from unknowncalls.errors import BadMachine, UnlikeNames
from unknowncalls.loops import Loop
from unknowncalls.machines import Machine, parting_in
from unknowncalls.names import Names
from unknowncalls.partition import coarsest
from unknowncalls.running import deeds
from unknowncalls.worlds import World

NAMES = Names(["a", "b"], {"f": 1}, {"p": 1}, {"tell": 1, "get": 0})
WORLD = World(NAMES, 2, {"a": 0, "b": 1}, {"f": {(0,): 1}}, {"p": [(1,)]})


def loop(start=(), turn=(), end=(), names=NAMES):
    return Loop(names, start, turn, end)


def tell(source):
    return ("do", None, "tell", source)


def counter(many, last, names=NAMES):
    """Counts turns, with so many registers from a up to b, then does the last statements."""
    registers = ["r" + letter for letter in "abcdefg"[:many]]

    def counted(at):
        if at == many:
            return list(last)
        name = registers[at]
        return [("if", ("same", name, "b"), [("put", name, "a"), *counted(at + 1)], [("call", name, "f", name)])]

    return Loop(names, [("put", name, "a") for name in registers], counted(0), [])


class PartingInTest(unittest.TestCase):
    def check(self, world, one, other, items):
        told = parting_in(world, one, other)
        if items is None:
            self.assertIsNone(told)
            return
        self.assertIs(told.__class__, tuple)
        things, results = told
        self.assertEqual((len(things), len(results)), (items, items + 2))
        done = [deeds(each, world, things, results) for each in (one, other)]
        self.assertNotEqual(*done)
        self.assertEqual(done, [plain_deeds(each, world, things, results)[0] for each in (one, other)])
        self.assertEqual(told, parting_in(world, one, other))

    def test_sections(self):
        self.check(WORLD, loop([tell("a")]), loop([tell("b")]), 0)
        self.check(WORLD, loop([tell("a")]), loop([], [], [tell("a")]), 0)
        self.check(WORLD, loop([], [], [tell("a")]), loop(), 0)
        self.check(WORLD, loop([], [tell("item")]), loop([], [tell("a")]), 1)
        self.check(WORLD, loop([], [tell("item")]), loop([], [tell("item"), ("leave",)]), 2)

    def test_alike_in_this_world_alone(self):
        one, two = loop([("call", "x", "f", "a"), tell("x")]), loop([tell("b")])
        self.check(WORLD, one, two, None)
        self.check(World(NAMES, 2, {"a": 0, "b": 1}), one, two, 0)
        self.check(World(NAMES, 1, {"a": 0, "b": 0}), one, two, None)

    def test_results(self):
        one = loop([("do", "x", "get"), ("do", None, "get"), ("do", "y", "get")], [],
                   [("if", ("same", "x", "b"), [("if", ("same", "y", "b"), [tell("a")], [])], [])])
        two = loop([("do", None, "get"), ("do", None, "get"), ("do", None, "get")])
        self.check(WORLD, one, two, 0)
        self.check(WORLD, one, one, None)
        one = loop([("put", "x", "a")], [("do", "y", "get"), ("if", ("same", "y", "item"), [], [("put", "x", "y")])], [tell("x")])
        two = loop([], [("do", None, "get")], [tell("a")])
        self.check(WORLD, one, two, 1)

    def test_the_first_deed_of_one_and_the_first_of_the_other_have_one_result(self):
        one = loop([], [("do", "x", "get"), ("do", "y", "get"), tell("x")])
        two = loop([], [("do", "y", "get"), ("do", "x", "get"), tell("x")])
        self.check(WORLD, one, two, 1)
        two = loop([], [("do", "x", "get"), ("do", "x", "get"), ("do", None, "tell", "x")])
        self.check(WORLD, one, two, 1)

    def test_behind_a_long_list(self):
        for many in (1, 3, 6):
            one, two = counter(many, [("do", None, "get")]), counter(many, [])
            self.check(WORLD, one, two, 2 ** many)
            self.check(WORLD, one, one, None)
        one, two = counter(4, [("do", "x", "get"), tell("x")]), counter(4, [("do", None, "get"), tell("a")])
        self.check(WORLD, one, two, 16)

    def test_drawn(self):
        chance = random.Random(44)
        seen = {}
        for _ in range(400):
            names = chance.choice(drawn.NAMES)
            drawing = drawn.Drawing(chance, names, ("x", "y", "z"), 5)
            one = drawing.loop(start=6)
            other = chance.choice((drawn.altered(chance, one, drawing), drawing.loop(start=6)))
            world = drawn.world(chance, names, chance.randrange(1, 4))
            if world is None:
                continue
            told = parting_in(world, one, other)
            items = None if told is None else len(told[0])
            seen[items] = seen.get(items, 0) + 1
            self.check(world, one, other, items)
            for many in range(4 if items is None else items):
                for _ in range(20):
                    things = [chance.randrange(world.size) for _ in range(many)]
                    results = [[chance.randrange(world.size) for _ in range(6)] for _ in range(many + 2)]
                    self.assertEqual(deeds(one, world, things, results), deeds(other, world, things, results))
        self.assertGreater(min(seen[items] for items in (None, 0, 1)), 30, seen)

    def test_unlike_names(self):
        other = Names(["a", "b"], {"f": 1}, {"p": 1}, {"tell": 1})
        world = World(other, 1, {"a": 0, "b": 0})
        for told in ((world, loop(), loop()), (WORLD, Loop(other, [], [], []), loop()), (WORLD, loop(), Loop(other, [], [], []))):
            with self.assertRaises(UnlikeNames):
                parting_in(*told)


class MachineTest(unittest.TestCase):
    def test_what_it_tells(self):
        one = loop([("put", "x", "a"), tell("x")], [tell("x"), ("put", "x", "item")], [("do", "y", "tell", "x"), tell("y")])
        machine = Machine(one, WORLD)
        self.assertEqual(machine.begin(), [("tell", (0,))])
        self.assertEqual(machine.rows(), [
            ([("tell", (0,)), ("tell", (0,))], [([("tell", (0,))], 0), ([("tell", (0,))], 1)]),
            ([("tell", (1,)), ("tell", (0,))], [([("tell", (1,))], 0), ([("tell", (1,))], 1)]),
        ])
        self.assertEqual(len(machine), 2)
        for ends, moves in machine.rows():
            self.assertEqual([part.__class__ for part in (ends, moves, moves[0], moves[0][0])], [list, list, tuple, list])

    def test_states_in_the_order_in_which_they_are_named(self):
        names = Names(["o", "x", "y"], {"f": 1}, {}, {"tell": 1})
        world = World(names, 3, {"o": 0, "x": 1, "y": 2}, {"f": {(0,): 2, (1,): 1, (2,): 0}})
        one = Loop(names, [("put", "k", "o")], [("if", ("same", "item", "o"), [("call", "k", "f", "k")], [("put", "k", "item")])],
                   [tell("k")])
        machine = Machine(loop=one, world=world)
        self.assertEqual([ends for ends, _ in machine.rows()], [[("tell", (0,))], [("tell", (2,))], [("tell", (1,))]])
        self.assertEqual([[number for _, number in moves] for _, moves in machine.rows()], [[1, 2, 1], [0, 2, 1], [2, 2, 1]])

    def test_what_cannot_be_told_apart_is_one_state(self):
        one = loop([("put", "x", "a"), ("put", "y", "b")], [("put", "y", "x"), ("put", "x", "item"), ("call", "z", "f", "item")],
                   [("if", ("same", "x", "a"), [tell("a")], [tell("b")])])
        self.assertEqual(len(Machine(one, WORLD)), 2)
        self.assertEqual(len(Machine(counter(5, []), WORLD)), 1)
        self.assertEqual(len(Machine(counter(5, [("do", None, "get")]), WORLD)), 32)

    def test_a_loop_that_leaves(self):
        one = loop([], [tell("item"), ("if", ("ask", "p", "item"), [("leave",)], [])], [tell("a")])
        self.assertEqual(Machine(one, WORLD).rows(), [
            ([("tell", (0,))], [([("tell", (0,))], 0), ([("tell", (1,))], 1)]),
            ([("tell", (0,))], [([], 1), ([], 1)])])

    def test_what_is_held_behind_a_leave(self):
        turn = [("if", ("ask", "p", "item"), [("leave",)], []), ("put", "x", "y"), ("put", "y", "item")]
        one = loop([("put", "x", "a"), ("put", "y", "b")], turn, [tell("x")])
        machine = Machine(one, WORLD)
        for many in range(5):
            for items in itertools.product(range(2), repeat=many):
                at = 0
                for item in items:
                    at = machine.rows()[at][1][item][1]
                self.assertEqual([machine.rows()[at][0]], deeds(one, WORLD, items)[-1:])
        two = loop([("put", "x", "a"), ("put", "y", "b"), ("put", "z", "a")], [*turn, ("put", "z", "b")], [
            ("if", ("same", "x", "b"), [tell("b")], [tell("x")])])
        self.assertIsNone(parting_in(WORLD, one, two))
        three = loop(two.section("start"), turn[1:], [tell("x")])
        self.assertEqual(len(parting_in(WORLD, one, three)[0]), 1)

    def test_results_are_all_0(self):
        one = loop([("do", "x", "get")], [("do", "x", "get")], [tell("x")])
        self.assertEqual(Machine(one, WORLD).rows(), [([("tell", (0,))], [([("get", ())], 0)] * 2)])

    def test_what_is_told_is_new(self):
        machine = Machine(loop([tell("a")], [tell("item")]), WORLD)
        machine.begin().clear()
        machine.rows()[0][1][0][0].clear()
        machine.rows()[0][0].append("new")
        machine.rows()[0][1].clear()
        machine.rows().clear()
        self.assertEqual(machine.begin(), [("tell", (0,))])
        self.assertEqual(machine.rows(), [([], [([("tell", (0,))], 0), ([("tell", (1,))], 0)])])

    def test_unlike_names(self):
        with self.assertRaises(UnlikeNames):
            Machine(loop(names=Names(["a", "b"])), WORLD)


class EqualTest(unittest.TestCase):
    def test_equal(self):
        one = Machine(loop([("put", "x", "a")], [("put", "x", "item"), tell("x")]), WORLD)
        self.assertTrue(one == Machine(loop([], [tell("item")]), WORLD))
        self.assertFalse(one != Machine(loop([], [tell("item")]), WORLD))
        self.assertFalse(one == Machine(loop([], [tell("a")]), WORLD))
        self.assertFalse(one == Machine(loop([tell("a")], [tell("item")]), WORLD))
        self.assertFalse(one == Machine(loop([], [tell("item")], [tell("a")]), WORLD))

    def test_another_world(self):
        silent = loop([], [tell("a")])
        self.assertTrue(Machine(silent, WORLD) == Machine(silent, World(NAMES, 2, {"a": 0, "b": 0})))
        self.assertFalse(Machine(silent, WORLD) == Machine(silent, World(NAMES, 3, {"a": 0, "b": 1})))
        names = Names(["b", "a"], deeds={"tell": 1})
        other = Loop(names, [], [tell("a")], [])
        self.assertTrue(Machine(silent, WORLD) == Machine(other, World(names, 2, {"a": 0, "b": 0})))

    def test_equal_to_nothing_else(self):
        machine = Machine(loop(), WORLD)
        for thing in [*no_names(), WORLD, machine.rows(), Yes(), Raises()]:
            self.assertIs(machine == thing, False)


class PartingTest(unittest.TestCase):
    def parting(self, one, other):
        return Machine(one, WORLD).parting(Machine(other, WORLD))

    def test_the_first_list(self):
        self.assertEqual(self.parting(loop([tell("a")]), loop()), [])
        self.assertEqual(self.parting(loop([], [], [tell("a")]), loop()), [])
        self.assertEqual(self.parting(loop([], [tell("item")]), loop([], [tell("a")])), [1])
        self.assertEqual(self.parting(loop([], [tell("item")]), loop([], [tell("b")])), [0])
        start = [("put", "x", "b"), ("put", "y", "b")]
        kept = loop(start, [("put", "y", "x"), ("put", "x", "item")], [tell("y")])
        self.assertEqual(self.parting(kept, loop([], [], [tell("b")])), [0, 0])
        self.assertEqual(self.parting(kept, loop(start, [("put", "y", "x"), ("put", "x", "item")], [
            ("if", ("same", "x", "a"), [tell("y")], [tell("b")])])), [0, 1])
        self.assertIsNone(self.parting(kept, kept))

    def test_in_the_turn_or_in_the_end(self):
        one = loop([("put", "x", "a")], [("if", ("ask", "p", "item"), [tell("a")], []), ("put", "x", "item")], [])
        two = loop([("put", "x", "a")], [("put", "x", "item")], [("if", ("ask", "p", "x"), [], [])])
        self.assertEqual(self.parting(one, two), [1])
        three = loop([("put", "x", "b")], [("put", "x", "item"), ("if", ("ask", "p", "item"), [tell("a")], [])],
                     [("if", ("ask", "p", "x"), [], [tell("a")])])
        self.assertEqual(self.parting(one, three), [0])

    def test_behind_a_long_list(self):
        told = self.parting(counter(6, [("do", None, "get")]), counter(6, [tell("a")]))
        self.assertEqual(told, [0] * 64)
        kept = Machine(counter(6, [("do", None, "get")]), WORLD)
        self.assertIsNone(kept.parting(Machine(counter(6, [("do", "x", "get")]), WORLD)))

    def test_drawn(self):
        chance = random.Random(45)
        seen = {}
        for _ in range(600):
            names = chance.choice(drawn.NAMES)
            drawing = drawn.Drawing(chance, names, ("x", "y", "z"), 6)
            one = drawing.loop(start=6)
            other = chance.choice((drawn.altered(chance, one, drawing), drawing.loop(start=6)))
            world = drawn.world(chance, names, chance.randrange(1, 4))
            if world is None:
                continue
            machine, second = Machine(one, world), Machine(other, world)
            self.check_machine(chance, machine, one, world)
            told = machine.parting(other=second)
            many = None if told is None else len(told)
            seen[many] = seen.get(many, 0) + 1
            self.assertIs(machine == second, told is None)
            found = self.first(one, other, world, 4 if told is None else len(told))
            if told is None or found is not None:
                self.assertEqual(told, found)
            self.assertEqual(second.parting(machine), told)
        self.assertGreater(min(seen[many] for many in (None, 0, 1)), 30, seen)

    def first(self, one, other, world, most):
        """The first list over which both do unlike deeds, of at most so many items."""
        if world.size ** most > 300:
            return None
        for many in range(most + 1):
            for items in itertools.product(range(world.size), repeat=many):
                if deeds(one, world, items) != deeds(other, world, items):
                    return list(items)
        return None

    def check_machine(self, chance, machine, one, world):
        rows = machine.rows()
        self.assertEqual(len(rows), len(machine))
        named = [0]
        for ends, moves in rows:
            self.assertEqual(len(moves), world.size)
            for _, number in moves:
                if number not in named:
                    named.append(number)
        self.assertEqual(named, list(range(len(rows))))
        for _ in range(4):
            items = [chance.randrange(world.size) for _ in range(chance.randrange(9))]
            at, done = 0, [machine.begin()]
            for item in items:
                done.append(rows[at][1][item][0])
                at = rows[at][1][item][1]
            self.assertEqual(done + [rows[at][0]], deeds(one, world, items))
        self.check_least(rows)

    def check_least(self, rows):
        """No two states do the same deeds over all lists."""
        parts = {at: str((ends, [done for done, _ in moves])) for at, (ends, moves) in enumerate(rows)}
        for _ in rows:
            told = {at: (parts[at], *[parts[number] for _, number in moves]) for at, (_, moves) in enumerate(rows)}
            numbers = {row: at for at, row in enumerate(dict.fromkeys(told.values()))}
            parts = {at: str(numbers[told[at]]) for at in told}
        self.assertEqual(len(set(parts.values())), len(rows))

    def test_bad_machine(self):
        machine = Machine(loop(), WORLD)
        for thing in [*no_names(), loop(), WORLD, Machine, Yes(), Raises(), Machine(loop(), World(NAMES, 3, {"a": 0, "b": 0}))]:
            with self.assertRaises(BadMachine) as caught:
                machine.parting(thing)
            self.assertIs(caught.exception.machine, thing)

    def test_machines_of_other_names(self):
        names = Names(["a", "b"], deeds={"tell": 1})
        world = World(names, 2, {"a": 1, "b": 0})
        self.assertEqual(Machine(loop([], [tell("a")]), WORLD).parting(Machine(Loop(names, [], [tell("a")], []), world)), [0])
        self.assertIsNone(Machine(loop([], [tell("a")]), WORLD).parting(Machine(Loop(names, [], [tell("b")], []), world)))


class PartitionTest(unittest.TestCase):
    def test_as_found_plainly(self):
        chance = random.Random(46)
        for _ in range(1500):
            size, letters = chance.randrange(1, 25), chance.randrange(1, 4)
            kinds = [(chance.randrange(3),) for _ in range(chance.choice((2, 4, size)))]
            rows = [[chance.randrange(size) for _ in range(letters)] for _ in kinds]
            picks = [chance.randrange(len(kinds)) for _ in range(size)]
            outputs = [kinds[pick] for pick in picks]
            moves = [rows[pick] if chance.randrange(5) else [chance.randrange(size) for _ in range(letters)] for pick in picks]
            told, parts = coarsest(outputs, moves), outputs
            for _ in range(size):
                rows_of = [(parts[at], *[parts[to] for to in moves[at]]) for at in range(size)]
                numbers = {row: at for at, row in enumerate(dict.fromkeys(rows_of))}
                parts = [(numbers[row],) for row in rows_of]
            pairs = set(zip(told, parts))
            self.assertEqual(len(pairs), len(set(told)))
            self.assertEqual(len(pairs), len(set(parts)))


class LargeTest(unittest.TestCase):
    def test_many_states(self):
        names = Names(["a", "b"], {"f": 1}, {}, {"tell": 1, "get": 0})
        world = World(names, 4, {"a": 0, "b": 3}, {"f": {(0,): 1, (1,): 2, (2,): 3, (3,): 0}})
        one, two = counter(6, [("do", None, "get")], names), counter(6, [], names)
        self.assertEqual(len(Machine(one, world)), 4 ** 6)
        self.assertEqual(len(parting_in(world, one, two)[0]), 4 ** 6)
        self.assertEqual(Machine(one, world).parting(Machine(two, world)), [0] * 4 ** 6)

    def test_results_that_no_register_takes(self):
        one = loop([], [("do", None, "get")] * 18, [tell("a")])
        self.assertIsNone(parting_in(World(NAMES, 4, {"a": 0, "b": 1}), one, one))

    def test_many_results_that_are_kept(self):
        registers = ["r" + letter for letter in "abcde"]
        start = [("put", name, "a") for name in registers]
        turn = [("do", name, "get") for name in registers]
        turn += [("if", ("same", registers[0], "item"), [("call", registers[0], "f", registers[0])], [])]
        one = loop(start, turn, [tell(name) for name in registers])
        two = loop(start, turn, [tell(name) for name in registers[:4]] + [
            ("if", ("same", "re", "b"), [("if", ("same", "rd", "b"), [tell("a")], [tell("re")])], [tell("re")])])
        world = World(NAMES, 4, {"a": 0, "b": 3})
        self.assertIsNone(parting_in(world, one, one))
        items, results = parting_in(world, one, two)
        self.assertEqual(len(items), 1)
        self.assertNotEqual(deeds(one, world, items, results), deeds(two, world, items, results))

    def test_many_results(self):
        registers = ["r" + letter for letter in "abcde"]
        turn = [("do", name, "get") for name in registers]
        turn += [("if", ("same", registers[0], registers[at]), [], [("put", registers[0], "item")]) for at in range(1, 5)]
        one = loop([("put", registers[0], "a")], turn, [tell(registers[0])])
        world = World(NAMES, 4, {"a": 0, "b": 1})
        self.assertIsNone(parting_in(world, one, one))


if __name__ == "__main__":
    unittest.main()
