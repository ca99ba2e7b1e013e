"""Points [5] to [7]: what loops are, and what is told of them."""

import unittest

from tests.odd import Raises, Text, Yes, no_names
from unknowncalls.errors import BadStatement, NoSection
from unknowncalls.loops import Loop
from unknowncalls.names import Names

NAMES = Names(["a", "b"], {"f": 1, "g": 2}, {"p": 1, "q": 2}, {"d": 0, "t": 1, "u": 2})

START = [
    ("put", "k", "a"),
    ("call", "v", "f", "k"),
    ("if", ("same", "k", "v"), [("put", "only", "b"), ("put", "w", "only")], [("put", "w", "k")]),
    ("do", None, "d"),
]
TURN = [
    ("call", "v", "g", "item", "v"),
    ("if", ("ask", "p", "item"), [("do", "seen", "t", "item"), ("leave",)], []),
    ("if", ("ask", "q", "k", "w"), [], [("if", ("same", "item", "b"), [("leave",)], [("put", "k", "item")])]),
    ("do", "z", "u", "v", "a"),
]
END = [("do", "v", "t", "v"), ("do", None, "u", "k", "w")]


def loop(**others):
    told = {"names": NAMES, "start": START, "turn": TURN, "end": END}
    told.update(others)
    return Loop(**told)


def lists(statement):
    """The same with lists instead of tuples."""
    return [lists(part) if isinstance(part, (list, tuple)) else part for part in statement]


def tuples(statement):
    return tuple(tuples(part) if isinstance(part, (list, tuple)) else part for part in statement)


class ToldTest(unittest.TestCase):
    def test_sections(self):
        self.assertEqual(loop().section("start"), [
            ("put", "k", "a"),
            ("call", "v", "f", "k"),
            ("if", ("same", "k", "v"), (("put", "only", "b"), ("put", "w", "only")), (("put", "w", "k"),)),
            ("do", None, "d"),
        ])
        self.assertEqual(loop().section("turn"), [
            ("call", "v", "g", "item", "v"),
            ("if", ("ask", "p", "item"), (("do", "seen", "t", "item"), ("leave",)), ()),
            ("if", ("ask", "q", "k", "w"), (),
             (("if", ("same", "item", "b"), (("leave",),), (("put", "k", "item"),)),)),
            ("do", "z", "u", "v", "a"),
        ])
        self.assertEqual(loop().section(word="end"), END)

    def test_names(self):
        self.assertEqual(loop().names, NAMES)
        self.assertIsInstance(loop().names, Names)

    def test_registers(self):
        self.assertEqual(loop().registers(), ["k", "v", "only", "w", "seen", "z"])

    def test_registers_in_the_order_of_reading(self):
        turn = [
            ("if", ("same", "a", "item"), [("put", "z", "a"), ("put", "y", "a")], [("do", "c", "d")]),
            ("call", "x", "f", "a"),
            ("put", "y", "b"),
        ]
        told = Loop(NAMES, [], turn, [("put", "aa", "a"), ("put", "z", "a")])
        self.assertEqual(told.registers(), ["z", "y", "c", "x", "aa"])
        self.assertEqual(told.lasting(), [])

    def test_a_do_for_nothing_has_no_register(self):
        self.assertEqual(Loop(NAMES, [("do", None, "d")], [], []).registers(), [])

    def test_lasting(self):
        self.assertEqual(loop().lasting(), ["k", "v", "w"])

    def test_lasting_in_the_order_in_which_they_are_first_put(self):
        start = [
            ("if", ("same", "a", "b"), [("put", "z", "a"), ("put", "y", "a")], [("put", "x", "a"), ("put", "y", "a")]),
            ("put", "x", "b"),
            ("do", "c", "d"),
            ("call", "bb", "f", "a"),
        ]
        told = Loop(NAMES, start, [("put", "z", "a"), ("put", "m", "a")], [])
        self.assertEqual(told.registers(), ["z", "y", "x", "c", "bb", "m"])
        self.assertEqual(told.lasting(), ["y", "x", "c", "bb"])

    def test_places(self):
        self.assertEqual(loop().places(), [
            ("start", 0), ("start", 1), ("start", 2), ("start", 2, "then", 0), ("start", 2, "then", 1),
            ("start", 2, "else", 0), ("start", 3),
            ("turn", 0), ("turn", 1), ("turn", 1, "then", 0), ("turn", 1, "then", 1),
            ("turn", 2), ("turn", 2, "else", 0), ("turn", 2, "else", 0, "then", 0), ("turn", 2, "else", 0, "else", 0),
            ("turn", 3), ("end", 0), ("end", 1),
        ])
        for place in loop().places():
            self.assertIs(place.__class__, tuple)

    def test_nothing(self):
        told = Loop(NAMES, [], [], [])
        self.assertEqual([told.section(word) for word in ("start", "turn", "end")], [[], [], []])
        self.assertEqual((told.registers(), told.lasting(), told.places()), ([], [], []))

    def test_by_position(self):
        self.assertEqual(Loop(NAMES, START, TURN, END), loop())

    def test_tuples_and_lists_the_other_way_about(self):
        for change in (lists, tuples):
            told = Loop(NAMES, change(START), change(TURN), change(END))
            self.assertEqual(told, loop())
            for word in ("start", "turn", "end"):
                self.assertIs(told.section(word).__class__, list)
                self.assertEqual(told.section(word), list(tuples(loop().section(word))))

    def test_what_is_told_is_new(self):
        told = loop()
        for tell in (told.registers, told.lasting, told.places):
            tell().clear()
            tell().append("new")
        for word in ("start", "turn", "end"):
            told.section(word).clear()
            told.section(word).append(("leave",))
        self.assertEqual(told, loop())
        self.assertEqual(told.section("start"), loop().section("start"))
        self.assertEqual(told.registers(), loop().registers())
        self.assertEqual(told.lasting(), loop().lasting())
        self.assertEqual(told.places(), loop().places())

    def test_what_was_passed_may_change_later(self):
        sections = [lists(START), lists(TURN), lists(END)]
        told = Loop(NAMES, *sections)
        for section in sections:
            for statement in section:
                for part in statement:
                    if isinstance(part, list):
                        part.append("more")
                statement.append("more")
                statement[0] = "leave"
            section.append(("put", "new", "a"))
        self.assertEqual(told, loop())
        self.assertEqual(told.section("turn"), loop().section("turn"))
        self.assertEqual(told.places(), loop().places())
        self.assertEqual(told.registers(), loop().registers())

    def test_what_is_told_may_be_passed(self):
        told = [loop().section(word) for word in ("start", "turn", "end")]
        self.assertEqual(Loop(NAMES, *told), loop())

    def test_texts_of_another_class(self):
        start = [
            (Text("put"), Text("k"), Text("a")),
            (Text("if"), (Text("ask"), Text("p"), Text("k")), [(Text("do"), Text("k"), Text("t"), Text("k"))], []),
            (Text("if"), (Text("same"), Text("k"), "k"), [(Text("call"), Text("k"), Text("f"), "k")], []),
        ]
        told = Loop(NAMES, start, [(Text("put"), "x", Text("item")), (Text("leave"),)], [])
        self.assertEqual(told, Loop(NAMES, [
            ("put", "k", "a"),
            ("if", ("ask", "p", "k"), [("do", "k", "t", "k")], []),
            ("if", ("same", "k", "k"), [("call", "k", "f", "k")], []),
        ], [("put", "x", "item"), ("leave",)], []))
        self.assertEqual(told.registers(), ["k", "x"])
        self.assertEqual(told.section(Text("end")), [])


class NoSectionTest(unittest.TestCase):
    def test_any_object(self):
        for thing in ["Start", "turns", "start ", "then", *no_names()]:
            with self.assertRaises(NoSection) as caught:
                loop().section(thing)
            self.assertIs(caught.exception.word, thing)


class EqualTest(unittest.TestCase):
    def test_equal(self):
        self.assertTrue(loop() == loop())
        self.assertFalse(loop() != loop())

    def test_each_part_counts(self):
        more = Names(["a", "b"], {"f": 1, "g": 2}, {"p": 1, "q": 2}, {"d": 0, "t": 1, "u": 2}, apart=[("a", "b")])
        others = [
            loop(names=more), loop(start=START + [("put", "k", "a")]), loop(turn=TURN[:-1]),
            loop(end=list(reversed(END))), loop(end=[]), loop(turn=[])]
        for other in others:
            self.assertFalse(loop() == other)
            self.assertTrue(loop() != other)

    def test_statements_in_another_section(self):
        todo = [("do", None, "d")]
        told = [Loop(NAMES, todo, [], []), Loop(NAMES, [], todo, []), Loop(NAMES, [], [], todo)]
        for at, one in enumerate(told):
            for other in told[at + 1:]:
                self.assertFalse(one == other)

    def test_then_and_else(self):
        todo = [("do", None, "d")]
        one = Loop(NAMES, [("if", ("same", "a", "b"), todo, [])], [], [])
        other = Loop(NAMES, [("if", ("same", "a", "b"), [], todo)], [], [])
        self.assertFalse(one == other)

    def test_equal_to_nothing_else(self):
        for thing in [*no_names(), NAMES, Yes(), Raises()]:
            self.assertIs(loop() == thing, False)
        self.assertIs(NAMES == loop(), False)


class PutTest(unittest.TestCase):
    """Where registers can be sources."""

    def good(self, start=(), turn=(), end=()):
        return Loop(NAMES, start, turn, end)

    def test_its_own_source(self):
        self.good([("put", "x", "a"), ("put", "x", "x"), ("call", "x", "f", "x"), ("call", "x", "g", "x", "x")])
        self.good([("do", "x", "d"), ("do", "x", "u", "x", "x")])

    def test_each_kind_of_statement_puts(self):
        for statement in (("put", "x", "a"), ("call", "x", "f", "a"), ("do", "x", "d")):
            told = self.good([statement, ("put", "y", "x")], [("put", "z", "x")], [("put", "z", "y")])
            self.assertEqual(told.lasting(), ["x", "y"])

    def test_both_branches(self):
        put = [("put", "x", "a")]
        self.good([("if", ("same", "a", "b"), put, put), ("put", "y", "x")])
        self.good([("if", ("same", "a", "b"), put, [("do", "x", "d")]), ("put", "y", "x")], end=[("put", "y", "x")])

    def test_within_a_branch(self):
        self.good([("put", "x", "a"), ("if", ("same", "x", "a"), [("put", "y", "x")], [("put", "z", "x")])])
        self.good([("if", ("same", "a", "b"), [("put", "y", "a"), ("put", "z", "y")], [])])

    def test_put_ahead_of_an_if(self):
        told = self.good([("put", "x", "a"), ("if", ("same", "x", "a"), [], [("put", "y", "a")]), ("put", "z", "x")])
        self.assertEqual(told.lasting(), ["x", "z"])

    def test_a_branch_that_leaves_does_not_count(self):
        put, leave = [("put", "x", "a")], [("leave",)]
        self.good(turn=[("if", ("same", "a", "item"), put, leave), ("put", "y", "x")])
        self.good(turn=[("if", ("same", "a", "item"), leave, put), ("put", "y", "x")])
        inner = [("if", ("same", "b", "item"), leave, leave)]
        self.good(turn=[("if", ("same", "a", "item"), put, inner), ("put", "y", "x")])
        self.good(turn=[("if", ("same", "a", "item"), inner, put), ("put", "y", "x")])

    def test_behind_a_leave_on_every_way_each_register_counts_as_put(self):
        leave = [("leave",)]
        gone = ("if", ("same", "a", "item"), leave, leave)
        self.good(turn=[gone, ("put", "x", "y"), ("call", "z", "f", "other"), ("do", None, "t", "x")])
        self.good(turn=[gone, ("if", ("same", "x", "y"), [("put", "z", "w")], [("leave",)]), ("put", "v", "abcdefgh")])
        self.good(turn=[("if", ("same", "a", "b"), [gone, ("put", "x", "y")], [])])
        self.good(turn=[("if", ("same", "a", "b"), [gone, ("put", "x", "y")], [gone]), ("put", "m", "n"), ("leave",)])
        self.good(turn=[gone, ("put", "x", "start"), ("put", "z", "item"), ("put", "z", "a")])

    def test_registers_that_only_count_as_put_are_not_told(self):
        leave = [("leave",)]
        told = self.good(turn=[("if", ("same", "a", "item"), leave, leave), ("put", "x", "y"), ("put", "z", "w")])
        self.assertEqual(told.registers(), ["x", "z"])

    def test_the_way_that_leaves_within_counts_in_its_own_branch(self):
        inner = ("if", ("same", "b", "item"), [("leave",)], [("put", "x", "a")])
        self.good(turn=[("if", ("same", "a", "item"), [inner, ("put", "y", "x")], [("put", "x", "b")]), ("put", "y", "x")])

    def test_what_is_put_in_a_turn_that_leaves_is_lasting_still(self):
        told = self.good([("put", "x", "a")], [("put", "x", "item"), ("leave",)], [("do", None, "t", "x")])
        self.assertEqual(told.lasting(), ["x"])

    def test_the_item_in_the_turn(self):
        self.good(turn=[
            ("put", "x", "item"), ("call", "x", "g", "item", "item"), ("do", None, "u", "item", "item"),
            ("if", ("same", "item", "item"), [("put", "x", "item")], []), ("if", ("ask", "p", "item"), [], [])])


class LimitsTest(unittest.TestCase):
    def test_many_statements_and_registers(self):
        registers = ["x" + letter for letter in "abcdefghijklmnopqrstuvwxyz"] + ["y" + letter for letter in "abcdefghijklmn"]
        start = [("put", name, "a") for name in registers]
        turn = [("call", registers[at % 40], "g", registers[at * 7 % 40], "item") for at in range(150)]
        end = [("do", None, "u", registers[-at], registers[at]) for at in range(40)]
        told = Loop(NAMES, start, turn, end)
        self.assertEqual(told.registers(), registers)
        self.assertEqual(told.lasting(), registers)
        self.assertEqual(len(told.places()), 230)
        self.assertEqual(told.places()[-1], ("end", 39))
        with self.assertRaises(BadStatement) as caught:
            Loop(NAMES, start[:-1], turn, end)
        self.assertEqual(caught.exception.place[0], "turn")

    def test_deep(self):
        for depth in (20, 60):
            told = Loop(NAMES, deep(depth, ("put", "y", "x")), [], [])
            innermost = ("start",) + (1, "then") * depth + (1,)
            self.assertEqual(len(told.places()), depth * 3 + 2)
            self.assertEqual(told.places()[2 * depth + 1], innermost)
            self.assertEqual(told.places()[-1], ("start", 1, "else", 0))
            self.assertEqual(told.lasting(), ["x", "y"])
            self.assertEqual(told, Loop(NAMES, told.section("start"), [], []))
            with self.assertRaises(BadStatement) as caught:
                Loop(NAMES, deep(depth, ("put", "y", "none")), [], [])
            self.assertEqual(caught.exception.place, innermost)


def deep(depth, statement):
    """Ifs within one another, with the statement in the innermost then."""
    if depth == 0:
        return [("put", "x", "a"), statement]
    return [("put", "x", "b"), ("if", ("same", "a", "x"), deep(depth - 1, statement), [("put", "y", "a")])]


if __name__ == "__main__":
    unittest.main()
