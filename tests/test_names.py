"""Points [3] and [4]: the names, what is told of them, and what is wrong."""

import enum
import unittest

from tests.odd import Raises, Text, Yes, no_names, no_texts, no_texts_but_lists, own_list
from unknowncalls.errors import BadFact, BadName, BadNumber, BadPair, BadRule, NoWorld
from unknowncalls.names import Names


class Two(enum.IntEnum):
    TWO = 2


def full(**others):
    """Names with something of each kind; what is passed takes the place of it."""
    told = {
        "constants": ["a", "b", "c"],
        "functions": {"f": 1, "g": 2, "h": 1, "k": 2},
        "tests": {"p": 1, "q": 2, "r": 2, "s": 2},
        "deeds": {"d": 0, "t": 1, "u": 2},
        "rules": {"r": "order", "g": "swaps", "h": "settles", "q": "both"},
        "facts": [("f", ["a"], "b"), ("g", ["a", "b"], "c"), ("p", ["c"], True), ("q", ["c", "a"], False)],
        "apart": [("c", "a"), ("b", "c")],
    }
    told.update(others)
    return Names(**told)


class Case(unittest.TestCase):
    def raised(self, error, work, *told, **more):
        """The error that is raised, of just this class."""
        with self.assertRaises(error) as caught:
            work(*told, **more)
        self.assertIs(caught.exception.__class__, error)
        return caught.exception


class ToldTest(Case):
    def test_what_is_told(self):
        names = full()
        self.assertEqual(names.constants, ("a", "b", "c"))
        self.assertIs(names.constants.__class__, tuple)
        self.assertEqual(list(names.functions().items()), [("f", 1), ("g", 2), ("h", 1), ("k", 2)])
        self.assertEqual(list(names.tests().items()), [("p", 1), ("q", 2), ("r", 2), ("s", 2)])
        self.assertEqual(list(names.deeds().items()), [("d", 0), ("t", 1), ("u", 2)])
        self.assertEqual(
            list(names.rules().items()), [("r", "order"), ("g", "swaps"), ("h", "settles"), ("q", "both")])
        self.assertEqual(names.facts(), [
            ("f", ("a",), "b"), ("g", ("a", "b"), "c"), ("p", ("c",), True), ("q", ("c", "a"), False)])
        self.assertEqual(names.apart(), [("c", "a"), ("b", "c")])

    def test_nothing(self):
        for names in (Names(), Names([], None, None, None, None, [], []), Names((), {}, {}, {}, {}, (), ())):
            self.assertEqual(names.constants, ())
            for told in (names.functions(), names.tests(), names.deeds(), names.rules()):
                self.assertEqual(told, {})
            self.assertEqual((names.facts(), names.apart()), ([], []))
            self.assertEqual(names, Names())

    def test_by_position(self):
        names = Names(
            ["a", "b"], {"f": 1}, {"p": 1}, {"d": 0}, {"f": "settles"}, [("p", ["a"], True)], [("a", "b")])
        self.assertEqual(names, Names(
            apart=[("a", "b")], facts=[("p", ["a"], True)], rules={"f": "settles"}, deeds={"d": 0},
            tests={"p": 1}, functions={"f": 1}, constants=["a", "b"]))
        self.assertEqual(names.constants, ("a", "b"))
        self.assertEqual(names.functions(), {"f": 1})
        self.assertEqual(names.tests(), {"p": 1})
        self.assertEqual(names.deeds(), {"d": 0})
        self.assertEqual(names.rules(), {"f": "settles"})
        self.assertEqual(names.facts(), [("p", ("a",), True)])
        self.assertEqual(names.apart(), [("a", "b")])

    def test_order_of_dicts_is_the_one_passed(self):
        names = Names([], {"z": 1, "b": 2, "m": 1}, rules={"m": "settles", "b": "swaps", "z": "settles"})
        self.assertEqual(list(names.functions()), ["z", "b", "m"])
        self.assertEqual(list(names.rules()), ["m", "b", "z"])

    def test_tuples_and_lists_the_other_way_about(self):
        names = full(
            constants=("a", "b", "c"),
            facts=(["f", ("a",), "b"], ["g", ("a", "b"), "c"], ["p", ("c",), True], ["q", ("c", "a"), False]),
            apart=(["c", "a"], ["b", "c"]))
        self.assertEqual(names, full())
        for fact in names.facts():
            self.assertIs(fact.__class__, tuple)
            self.assertIs(fact[1].__class__, tuple)
        for pair in names.apart():
            self.assertIs(pair.__class__, tuple)
        self.assertIs(names.facts().__class__, list)
        self.assertIs(names.apart().__class__, list)

    def test_what_is_told_is_new(self):
        names = full()
        for tell in (names.functions, names.tests, names.deeds, names.rules):
            tell().clear()
            tell()["new"] = 1
        names.facts().clear()
        names.apart().append(("a", "b"))
        self.assertEqual(names, full())
        self.assertEqual(names.functions(), full().functions())
        self.assertEqual(names.tests(), full().tests())
        self.assertEqual(names.deeds(), full().deeds())
        self.assertEqual(names.rules(), full().rules())
        self.assertEqual(names.facts(), full().facts())
        self.assertEqual(names.apart(), full().apart())

    def test_what_was_passed_may_change_later(self):
        given, pair, constants = ["a"], ["a", "b"], ["a", "b"]
        fact = ["f", given, "b"]
        facts, apart = [fact], [pair]
        tables = [{"f": 1}, {"p": 1}, {"d": 0}, {"f": "settles"}]
        names = Names(constants, *tables, facts, apart)
        for things in (given, pair, constants, fact, facts, apart):
            things.reverse()
            things.append("b")
        for table in tables:
            table.clear()
            table["b"] = 7
        self.assertEqual(names, Names(
            ["a", "b"], {"f": 1}, {"p": 1}, {"d": 0}, {"f": "settles"}, [("f", ["a"], "b")], [("a", "b")]))
        self.assertEqual(names.constants, ("a", "b"))
        self.assertEqual(names.facts(), [("f", ("a",), "b")])
        self.assertEqual(names.apart(), [("a", "b")])

    def test_facts_and_pairs_may_come_twice(self):
        facts = [("f", ("a",), "b"), ("f", ("a",), "b")]
        names = full(facts=facts, apart=[("a", "c"), ("c", "a"), ("a", "c")])
        self.assertEqual(names.facts(), facts)
        self.assertEqual(names.apart(), [("a", "c"), ("c", "a"), ("a", "c")])


class EqualTest(Case):
    def test_equal(self):
        self.assertTrue(full() == full())
        self.assertFalse(full() != full())

    def test_each_part_counts(self):
        others = [
            full(constants=["b", "a", "c"]),
            full(constants=["a", "b", "c", "e"]),
            full(functions={"f": 1, "g": 2, "h": 1, "k": 1}),
            full(functions={"f": 1, "g": 2, "h": 1}),
            full(tests={"p": 1, "q": 2, "r": 2, "s": 1}),
            full(deeds={"d": 0, "t": 1, "u": 1}),
            full(rules={"r": "order", "g": "swaps", "h": "settles"}),
            full(rules={"r": "both", "g": "swaps", "h": "settles", "q": "both"}),
            full(facts=full().facts()[:-1]),
            full(facts=list(reversed(full().facts()))),
            full(facts=full().facts() + full().facts()[:1]),
            full(apart=[("b", "c"), ("c", "a")]),
            full(apart=[("a", "c"), ("b", "c")]),
            full(apart=[("c", "a")]),
        ]
        for other in others:
            self.assertFalse(full() == other)
            self.assertTrue(full() != other)
        for at, one in enumerate(others):
            for other in others[at + 1:]:
                self.assertFalse(one == other)

    def test_order_of_dicts_does_not_count(self):
        told = full()
        tables = [dict(reversed(list(table.items())))
                  for table in (told.functions(), told.tests(), told.deeds(), told.rules())]
        self.assertEqual(told, Names(told.constants, *tables, told.facts(), told.apart()))

    def test_equal_to_nothing_else(self):
        for thing in no_names():
            if not isinstance(thing, Raises):
                self.assertIs(full() == thing, False)
        self.assertIs(Names() == Yes(), False)
        self.assertIs(Names() == Raises(), False)
        self.assertIs(Names() == (), False)


class BadNameTest(Case):
    def test_what_a_name_is(self):
        for name in ("a", "z", "abcdefgh", "start", "turn", "end", "put", "call", "ask", "then", "items", "x"):
            self.assertEqual(Names([name]).constants, (name,))
            self.assertEqual(Names(functions={name: 1}).functions(), {name: 1})
            self.assertEqual(Names(tests={name: 1}).tests(), {name: 1})
            self.assertEqual(Names(deeds={name: 1}).deeds(), {name: 1})

    def test_constants_that_are_none(self):
        for thing in no_names():
            error = self.raised(BadName, Names, ["a", thing, "b"])
            self.assertIs(error.name, thing)

    def test_keys_that_are_none(self):
        for thing in no_names():
            try:
                table = {"a": 1, thing: 1, "b": 1}
            except (TypeError, RuntimeError):
                continue
            if len(table) < 3:
                continue
            for at in range(3):
                tables = [None, None, None]
                tables[at] = table
                self.assertIs(self.raised(BadName, Names, [], *tables).name, thing)

    def test_stood_before(self):
        self.assertEqual(self.raised(BadName, Names, ["a", "b", "b", "a"]).name, "b")
        self.assertEqual(self.raised(BadName, Names, ["a"], {"f": 1, "a": 1}).name, "a")
        self.assertEqual(self.raised(BadName, Names, ["a"], None, {"a": 1}).name, "a")
        self.assertEqual(self.raised(BadName, Names, ["a"], None, None, {"a": 1}).name, "a")
        self.assertEqual(self.raised(BadName, Names, [], {"f": 1}, {"f": 1}).name, "f")
        self.assertEqual(self.raised(BadName, Names, [], {"f": 1}, None, {"f": 1}).name, "f")
        self.assertEqual(self.raised(BadName, Names, [], None, {"p": 1}, {"p": 1}).name, "p")

    def test_first_of_several(self):
        self.assertEqual(self.raised(BadName, Names, ["A", "B"]).name, "A")
        self.assertEqual(self.raised(BadName, Names, ["A"], {"B": 1}, {"C": 1}, {"D": 1}).name, "A")
        self.assertEqual(self.raised(BadName, Names, ["a"], {"B": 1}, {"C": 1}, {"D": 1}).name, "B")
        self.assertEqual(self.raised(BadName, Names, ["a"], {"b": 1}, {"C": 1}, {"D": 1}).name, "C")
        self.assertEqual(self.raised(BadName, Names, ["a"], {"b": 1}, {"c": 1}, {"D": 1}).name, "D")

    def test_texts_of_another_class(self):
        names = Names([Text("a"), "b"], facts=[], apart=[(Text("a"), Text("b"))])
        self.assertEqual(names, Names(["a", "b"], apart=[("a", "b")]))
        twice = Text("a")
        self.assertIs(self.raised(BadName, Names, [Text("a"), twice]).name, twice)


class BadNumberTest(Case):
    def test_numbers_that_may_be(self):
        self.assertEqual(Names([], {"f": Two.TWO}).functions(), {"f": 2})
        self.assertIs(Names([], {"f": Two.TWO}).functions()["f"].__class__, int)

    def test_numbers_that_may_not_be(self):
        things = [-1, 3, 1.0, 2.0, 1 + 0j, "1", "a", None, [], [1], own_list(), *no_texts()]
        for thing in [thing for thing in things if not _is_small(thing)]:
            for at in range(3):
                tables = [None, None, None]
                tables[at] = {"a": 1, "b": thing, "c": thing}
                self.assertEqual(self.raised(BadNumber, Names, [], *tables).name, "b")

    def test_none_but_of_deeds(self):
        self.assertEqual(self.raised(BadNumber, Names, [], {"f": 0}).name, "f")
        self.assertEqual(self.raised(BadNumber, Names, [], None, {"p": 0}).name, "p")
        self.assertEqual(Names([], None, None, {"d": 0}).deeds(), {"d": 0})

    def test_truth_values(self):
        self.assertEqual(self.raised(BadNumber, Names, [], {"f": True}).name, "f")
        self.assertEqual(self.raised(BadNumber, Names, [], None, {"p": True}).name, "p")
        self.assertEqual(self.raised(BadNumber, Names, [], None, None, {"d": True}).name, "d")
        self.assertEqual(self.raised(BadNumber, Names, [], None, None, {"d": False}).name, "d")

    def test_first_of_several(self):
        self.assertEqual(self.raised(BadNumber, Names, [], {"f": 3}, {"p": 3}, {"d": 3}).name, "f")
        self.assertEqual(self.raised(BadNumber, Names, [], {"f": 2}, {"p": 3}, {"d": 3}).name, "p")
        self.assertEqual(self.raised(BadNumber, Names, [], {"f": 2}, {"p": 2}, {"d": 3}).name, "d")

    def test_the_key_itself_is_told(self):
        class Name(str):
            pass
        name = Name("f")
        self.assertIs(self.raised(BadNumber, Names, [], {name: 3}).name, name)


class BadRuleTest(Case):
    def test_rules_that_may_be(self):
        for name, rule in (("f", "settles"), ("g", "swaps"), ("q", "both"), ("q", "order")):
            self.assertEqual(full(rules={name: rule}).rules(), {name: rule})
        rules = {"f": "settles", "h": "settles", "g": "swaps", "k": "swaps", "q": "both", "s": "both", "r": "order"}
        self.assertEqual(full(rules=rules).rules(), rules)

    def test_rules_of_another_kind(self):
        fitting = {("f", "settles"), ("g", "swaps"), ("q", "both"), ("q", "order")}
        for name in ("f", "g", "p", "q", "d", "t", "u", "a", "none"):
            for rule in ("settles", "swaps", "both", "order", "Swaps", "", "none"):
                if (name, rule) not in fitting:
                    self.assertEqual(self.raised(BadRule, full, rules={name: rule}).name, name)

    def test_things_that_are_no_rules(self):
        for thing in [*no_texts(), *no_texts_but_lists(), Text("none")]:
            for name in ("f", "g", "q"):
                rules = {"h": "settles", name: thing, "none": thing}
                self.assertEqual(self.raised(BadRule, full, rules=rules).name, name)

    def test_keys_that_are_no_names(self):
        for thing in no_names():
            try:
                rules = {"h": "settles", thing: "settles"}
            except (TypeError, RuntimeError):
                continue
            self.assertIs(self.raised(BadRule, full, rules=rules).name, thing)

    def test_second_order(self):
        rules = {"s": "order", "q": "both", "r": "order"}
        self.assertEqual(self.raised(BadRule, full, rules=rules).name, "r")
        self.assertEqual(self.raised(BadRule, full, rules=dict(reversed(list(rules.items())))).name, "s")

    def test_first_of_several(self):
        rules = {"q": "order", "r": "order", "a": "swaps"}
        self.assertEqual(self.raised(BadRule, full, rules=rules).name, "r")
        rules = {"q": "order", "a": "swaps", "r": "order"}
        self.assertEqual(self.raised(BadRule, full, rules=rules).name, "a")


class BadFactTest(Case):
    def bad(self, fact):
        good = [("f", ["a"], "b"), ("p", ["a"], True)]
        for at in range(3):
            facts = good[:at] + [fact] + good[at:] + [fact]
            self.assertEqual(self.raised(BadFact, full, facts=facts).index, at)

    def test_facts_that_may_be(self):
        facts = [
            ("f", ("a",), "b"), ("g", ("a", "b"), "c"), ("k", ("c", "c"), "a"), ("h", ("b",), "b"),
            ("p", ("a",), True), ("p", ("b",), False), ("q", ("a", "a"), True), ("r", ("a", "a"), False)]
        self.assertEqual(full(facts=facts).facts(), facts)

    def test_things_that_are_none(self):
        for thing in no_names():
            self.bad(thing)

    def test_other_lengths(self):
        for fact in ((), ("f",), ("f", ("a",)), ("f", ("a",), "b", "b"), ("p", ("a",), True, True), "fab"):
            self.bad(fact)

    def test_names_that_are_none(self):
        for name in ("a", "d", "t", "u", "none", "same", "item", *no_names()):
            for worth in ("a", True):
                self.bad((name, ("a",), worth))

    def test_other_numbers_of_values(self):
        for fact in (
                ("f", (), "a"), ("f", ("a", "b"), "a"), ("g", ("a",), "a"), ("g", ("a", "b", "c"), "a"),
                ("p", (), True), ("p", ("a", "b"), True), ("q", ("a",), True), ("q", ("a", "b", "c"), True)):
            self.bad(fact)

    def test_values_that_are_no_constants(self):
        for thing in ("f", "p", "d", "none", "item", *no_names()):
            self.bad(("f", (thing,), "a"))
            self.bad(("g", ("a", thing), "a"))
            self.bad(("p", [thing], True))
            self.bad(("q", [thing, "a"], True))

    def test_lists_that_are_none(self):
        for thing in ("a", "ab", None, [], (), own_list(), (own_list(),), *no_texts()):
            self.bad(("f", thing, "a"))
            self.bad(("p", thing, True))

    def test_what_is_told_of_another_kind(self):
        for thing in (True, False, "f", "none", *no_names()):
            self.bad(("f", ["a"], thing))
        for thing in (0, 1, "a", "True", None, *[thing for thing in no_names() if not isinstance(thing, bool)]):
            self.bad(("p", ["a"], thing))

    def test_texts_of_another_class(self):
        facts = [(Text("f"), [Text("a")], Text("b")), (Text("p"), [Text("a")], True)]
        self.assertEqual(full(facts=facts).facts(), [("f", ("a",), "b"), ("p", ("a",), True)])


class BadPairTest(Case):
    def bad(self, pair):
        good = [("a", "c"), ("b", "c")]
        for at in range(3):
            apart = good[:at] + [pair] + good[at:] + [pair]
            self.assertEqual(self.raised(BadPair, full, apart=apart).index, at)

    def test_things_that_are_none(self):
        for thing in no_names():
            self.bad(thing)

    def test_other_lengths(self):
        for pair in ((), ("a",), ("a", "b", "c"), "ab", {"a": 1, "b": 1}):
            self.bad(pair)

    def test_one_constant_twice(self):
        self.bad(("a", "a"))
        self.bad(["c", "c"])
        self.bad((Text("a"), "a"))

    def test_things_that_are_no_constants(self):
        for thing in ("f", "p", "d", "none", "item", *no_names()):
            self.bad(("a", thing))
            self.bad([thing, "a"])


class OrderOfErrorsTest(Case):
    def test_the_one_told_first_is_raised(self):
        wrong = [
            (BadName, {"constants": ["a", "b", "c", "A"]}),
            (BadNumber, {"deeds": {"d": 3}}),
            (BadRule, {"rules": {"f": "none"}}),
            (BadFact, {"facts": [("f", ["a"], "b"), None]}),
            (BadPair, {"apart": [("a", "b"), None]}),
        ]
        for at, (error, told) in enumerate(wrong):
            for other, more in wrong[at:]:
                self.raised(error, full, **{**more, **told})
        everything = {}
        for error, told in reversed(wrong):
            everything.update(told)
            self.raised(error, full, **everything)

    def test_a_bad_name_of_deeds_is_ahead_of_a_bad_number_of_functions(self):
        self.assertEqual(self.raised(BadName, Names, [], {"f": 3}, {"p": 3}, {"D": 3}).name, "D")

    def test_no_world_is_behind_all(self):
        apart = [("a", "b")]
        facts = [("f", ["a"], "a"), ("f", ["a"], "b")]
        self.raised(NoWorld, full, facts=facts, apart=apart)
        self.raised(BadPair, full, facts=facts, apart=apart + [("a", "a")])
        self.raised(BadFact, full, facts=facts + [()], apart=apart)
        self.raised(BadRule, full, facts=facts, apart=apart, rules={"f": "both"})
        self.raised(BadNumber, full, facts=facts, apart=apart, deeds={"d": None})
        self.raised(BadName, full, facts=facts, apart=apart, deeds={"a": 1})


def _is_small(thing):
    return isinstance(thing, int) and not isinstance(thing, bool) and thing in (0, 1, 2)


if __name__ == "__main__":
    unittest.main()
