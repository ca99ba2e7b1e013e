"""Point [7]: the place of the first thing that is no statement."""

import unittest

from tests.odd import Text, no_names, no_texts, no_texts_but_lists, own_list
from unknowncalls.errors import BadStatement
from unknowncalls.loops import Loop
from unknowncalls.names import Names

NAMES = Names(["a", "b"], {"f": 1, "g": 2}, {"p": 1, "q": 2}, {"d": 0, "t": 1, "u": 2})
SECTIONS = ("start", "turn", "end")
SAME = ("same", "a", "b")


class Case(unittest.TestCase):
    def place(self, *sections):
        with self.assertRaises(BadStatement) as caught:
            Loop(NAMES, *sections)
        place = caught.exception.place
        self.assertIs(place.__class__, tuple)
        return place

    def bad_in(self, word, statement, ahead=()):
        """The statement is wrong in this section: alone, behind others, ahead of others, in ifs."""
        good = [*ahead, ("put", "good", "a")]
        many = len(good)
        for statements, place in (
                ([*ahead, statement], (word, len(ahead))),
                ([*good, statement, None], (word, many)),
                ([*good, ("if", SAME, [*ahead, statement, ("put", "x", "a")], [None])],
                 (word, many, "then", len(ahead))),
                ([*good, ("if", SAME, [("put", "x", "a")], good + [statement])], (word, many, "else", many)),
                ([("if", SAME, [], [*good, ("if", SAME, [*good, statement], [])])],
                 (word, 0, "else", many, "then", many)),
        ):
            sections = [[], [], []]
            sections[SECTIONS.index(word)] = statements
            self.assertEqual(self.place(*sections), place, statement)
            for later in range(SECTIONS.index(word) + 1, 3):
                sections[later] = None
            self.assertEqual(self.place(*sections), place)

    def bad(self, statement, ahead=()):
        for word in SECTIONS:
            self.bad_in(word, statement, ahead)

    def good(self, statement, ahead=()):
        """The same statement with what is wrong put right, so that nothing else is."""
        for at in range(3):
            sections = [[], [], []]
            sections[at] = [*ahead, statement]
            Loop(NAMES, *sections)


class SectionTest(Case):
    def test_sections_that_are_no_lists(self):
        for thing in [*no_texts(), None, "", "start", "put"]:
            self.assertEqual(self.place(thing, [], []), ("start",))
            self.assertEqual(self.place([], thing, []), ("turn",))
            self.assertEqual(self.place([], [], thing), ("end",))

    def test_first_of_several(self):
        self.assertEqual(self.place(None, None, None), ("start",))
        self.assertEqual(self.place([None], None, None), ("start", 0))
        self.assertEqual(self.place([], None, None), ("turn",))
        self.assertEqual(self.place([], [None], None), ("turn", 0))
        self.assertEqual(self.place([], [], None), ("end",))
        self.assertEqual(self.place([], [], [None]), ("end", 0))

    def test_a_list_within_itself(self):
        self.assertEqual(self.place(own_list(), [], []), ("start", 0))


class StatementTest(Case):
    def test_any_object(self):
        for thing in no_names():
            self.bad(thing)
        for text in ("put", "leave", "do tell(a)"):
            self.bad(text)

    def test_unknown_words(self):
        for thing in ("Put", "puts", "", "same", "ask", "then", "else", "start", "f", "d", *no_names()):
            self.bad((thing, "x", "a"))
            if not (isinstance(thing, str) and thing == "leave"):
                self.bad([thing])
        for word in ("put", "call", "do", "if"):
            self.bad((word,))
            self.bad([word])

    def test_put(self):
        self.good(("put", "x", "a"))
        for statement in (("put",), ("put", "x"), ("put", "x", "a", "a"), ("put", "a"), ("put", "x", "a", None)):
            self.bad(statement)

    def test_call(self):
        self.good(("call", "x", "f", "a"))
        self.good(("call", "x", "g", "a", "b"))
        for statement in (
                ("call", "x"), ("call", "x", "f"), ("call", "x", "g"), ("call", "x", "g", "a"),
                ("call", "x", "f", "a", "a"), ("call", "x", "g", "a", "a", "a"), ("call", "f", "a"),
                ("call", "x", "f", ("a",)), ("call", "x", "g", ["a", "b"])):
            self.bad(statement)
        for name in ("a", "p", "q", "d", "t", "u", "x", "none", "same", *no_names()):
            self.bad(("call", "x", name, "a"))
            self.bad(("call", "x", name, "a", "b"))
            self.bad(("call", "x", name))

    def test_do(self):
        for target in ("x", None):
            self.good(("do", target, "d"))
            self.good(("do", target, "t", "a"))
            self.good(("do", target, "u", "a", "b"))
            for statement in (
                    ("do", target), ("do", target, "d", "a"), ("do", target, "t"), ("do", target, "t", "a", "b"),
                    ("do", target, "u", "a"), ("do", target, "u", "a", "b", "a"), ("do", target, "u", ("a", "b")),
                    ("do", target, "d", None), ("do", target, "d", ())):
                self.bad(statement)
            for name in ("a", "f", "g", "p", "q", "x", "none", *no_names()):
                self.bad(("do", target, name))
                self.bad(("do", target, name, "a"))
                self.bad(("do", target, name, "a", "b"))
        self.bad(("do", "d"))
        self.bad(("do", "t", "a"))

    def test_targets(self):
        for thing in ("a", "b", "f", "g", "p", "q", "d", "t", "u", *no_names()):
            self.bad(("put", thing, "a"))
            self.bad(("call", thing, "f", "a"))
            if thing is not None:
                self.bad(("do", thing, "d"))
                self.bad(("do", thing, "t", "a"))

    def test_names_of_sections_and_words_can_be_registers(self):
        for name in ("start", "turn", "end", "put", "call", "ask", "then", "none", "abcdefgh", "x"):
            self.good(("put", "y", name), [("put", name, "a")])


class SourceTest(Case):
    def statements(self, thing):
        """Statements with a thing as each of their sources."""
        return [
            ("put", "x", thing), ("call", "x", "f", thing), ("call", "x", "g", thing, "a"),
            ("call", "x", "g", "a", thing), ("do", None, "t", thing), ("do", None, "u", thing, "a"),
            ("do", "x", "u", "a", thing), ("if", ("same", thing, "a"), [], []), ("if", ("same", "a", thing), [], []),
            ("if", ("ask", "p", thing), [], []), ("if", ("ask", "q", thing, "a"), [], []),
            ("if", ("ask", "q", "a", thing), [], [])]

    def test_things_that_are_none(self):
        for thing in [*no_texts(), *no_texts_but_lists(), "", "A", "same", "do", "f", "g", "p", "d", "u", "abcdefghi"]:
            for statement in self.statements(thing):
                self.bad(statement)

    def test_registers_that_are_not_put(self):
        for statement in self.statements("x"):
            self.bad(statement)
            self.good(statement, [("put", "x", "a")])
        for statement in self.statements("late"):
            self.assertEqual(self.place([statement, ("put", "late", "a")], [], []), ("start", 0))

    def test_the_item_outside_of_the_turn(self):
        for statement in self.statements("item"):
            self.bad_in("start", statement)
            self.bad_in("end", statement)
            Loop(NAMES, [], [statement], [])

    def test_a_register_of_another_section(self):
        put, statement = [("put", "x", "a")], ("do", None, "t", "x")
        self.assertEqual(self.place([], put, [statement]), ("end", 0))
        self.assertEqual(self.place([], [statement], put), ("turn", 0))
        self.assertEqual(self.place([], [statement, *put], []), ("turn", 0))
        self.assertEqual(self.place([("if", SAME, put, [])], [statement], []), ("turn", 0))
        self.assertEqual(self.place([("if", SAME, put, [])], [], [statement]), ("end", 0))
        self.assertEqual(self.place([("if", SAME, [], put)], put, [statement]), ("end", 0))
        self.assertEqual(self.place([("if", SAME, put, [])], [("if", SAME, [], put), statement], []), ("turn", 1))
        Loop(NAMES, put, [statement], [statement])

    def test_put_in_one_branch_alone(self):
        put = [("put", "x", "a")]
        for statement in self.statements("x"):
            self.bad(statement, [("if", SAME, put, [])])
            self.bad(statement, [("if", SAME, [], put)])
            self.good(statement, [("if", SAME, put, put)])

    def test_put_in_the_other_branch(self):
        statement = ("if", SAME, [("put", "x", "a")], [("put", "y", "x")])
        for at, word in enumerate(SECTIONS):
            sections = [[], [], []]
            sections[at] = [statement]
            self.assertEqual(self.place(*sections), (word, 0, "else", 0))

    def test_put_within_the_if_itself(self):
        self.bad(("if", ("same", "x", "a"), [("put", "x", "a")], [("put", "x", "a")]))

    def test_a_leave_in_one_branch_alone(self):
        leave, put, statement = [("leave",)], [("put", "x", "a")], ("do", None, "t", "x")
        self.assertEqual(self.place([], [("if", SAME, leave, []), statement], []), ("turn", 1))
        self.assertEqual(self.place([], [("if", SAME, [], leave), statement], []), ("turn", 1))
        self.assertEqual(self.place([], [("if", SAME, put + leave, []), statement], []), ("turn", 1))
        self.assertEqual(self.place([], [("if", SAME, leave, leave)], [statement]), ("end", 0))
        self.assertEqual(self.place([], [("if", SAME, leave, leave), *put], [statement]), ("end", 0))
        inner = [("if", SAME, leave, [])]
        self.assertEqual(self.place([], [("if", SAME, inner, leave), statement], []), ("turn", 1))
        self.assertEqual(self.place([], [("if", SAME, inner, put), statement], []), ("turn", 1))

    def test_what_counts_as_put_is_a_register_still(self):
        gone = ("if", SAME, [("leave",)], [("leave",)])
        for thing in ("f", "p", "d", "same", "A", "abcdefghi", *no_texts()):
            for statement in self.statements(thing):
                self.assertEqual(self.place([], [gone, statement], []), ("turn", 1))

    def test_behind_an_if_the_other_branch_counts_again(self):
        gone = ("if", SAME, [("leave",)], [("leave",)])
        turn = [("if", SAME, [gone, ("put", "x", "y")], [("put", "z", "a")]), ("put", "x", "z"), ("put", "x", "y")]
        self.assertEqual(self.place([], turn, []), ("turn", 2))
        turn = [("if", SAME, [gone], [("put", "x", "y")])]
        self.assertEqual(self.place([], turn, []), ("turn", 0, "else", 0))


class IfTest(Case):
    def test_other_lengths(self):
        self.good(("if", SAME, [], []))
        for statement in (("if", SAME), ("if", SAME, []), ("if", SAME, [], [], []), ("if", [], []), ("if", SAME, [None])):
            self.bad(statement)

    def test_tests_that_are_none(self):
        for test in (
                (), ("same",), ("same", "a"), ("same", "a", "a", "a"), ("ask",), ("ask", "p"), ("ask", "q"),
                ("ask", "q", "a"), ("ask", "p", "a", "a"), ("ask", "q", "a", "a", "a"), ("p", "a"), ("q", "a", "b"),
                ("Same", "a", "a"), ("same", ("a", "a")), ("ask", "same", "a", "a"), ("ask", ("p", "a")),
                "same", "ask", {"same": 1}, *no_names()):
            self.bad(("if", test, [], []))
        for name in ("a", "f", "g", "d", "t", "u", "x", "none", *no_names()):
            self.bad(("if", ("ask", name, "a"), [], []))
            self.bad(("if", ("ask", name, "a", "b"), [], []))
            self.bad(("if", ("ask", name), [], []))
            if not (isinstance(name, str) and name == "same"):
                self.bad(("if", (name, "a", "b"), [], []))

    def test_tests_that_may_be(self):
        for test in (["same", "a", "a"], ("ask", "p", "b"), ["ask", "q", "a", "b"], (Text("same"), "a", "b")):
            self.good(("if", test, (), []))

    def test_branches_that_are_no_lists(self):
        for thing in [*no_texts(), None, "", "put", {"a": 1}]:
            self.bad(("if", SAME, thing, []))
            self.bad(("if", SAME, [], thing))
            self.bad(("if", SAME, thing, thing))

    def test_the_if_is_read_ahead_of_what_is_in_it(self):
        self.bad(("if", SAME, [None], None))
        self.bad(("if", None, [None], [None]))
        self.bad(("if", ("same", "x", "a"), [None], []))

    def test_then_is_read_ahead_of_else(self):
        self.assertEqual(self.place([("if", SAME, [None], [None])], [], []), ("start", 0, "then", 0))
        inner = ("if", SAME, [], [("put", "x", "y")])
        self.assertEqual(self.place([("if", SAME, [inner, None], [None])], [], []), ("start", 0, "then", 0, "else", 0))
        self.assertEqual(self.place([("if", SAME, [], [None]), None], [], []), ("start", 0, "else", 0))


class LeaveTest(Case):
    def test_outside_of_the_turn(self):
        self.bad_in("start", ("leave",))
        self.bad_in("end", ("leave",))
        self.bad_in("start", ["leave"])
        Loop(NAMES, [], [("leave",)], [])
        Loop(NAMES, [], [["leave"]], [])

    def test_not_the_last_of_its_list(self):
        leave, other = ("leave",), ("put", "x", "a")
        self.assertEqual(self.place([], [leave, other], []), ("turn", 0))
        self.assertEqual(self.place([], [leave, None], []), ("turn", 0))
        self.assertEqual(self.place([], [leave, leave], []), ("turn", 0))
        self.assertEqual(self.place([], [other, leave, other], []), ("turn", 1))
        self.assertEqual(self.place([], [("if", SAME, [leave, other], [])], []), ("turn", 0, "then", 0))
        self.assertEqual(self.place([], [("if", SAME, [], [other, leave, other])], []), ("turn", 0, "else", 1))
        Loop(NAMES, [], [other, leave], [])
        Loop(NAMES, [], [("if", SAME, [other, leave], [leave]), other, leave], [])

    def test_other_lengths(self):
        for statement in (("leave", "x"), ("leave", None), ["leave", ()]):
            self.assertEqual(self.place([], [statement], []), ("turn", 0))
            self.bad(statement)


class ReadingTest(Case):
    def test_first_of_several(self):
        good, bad = ("put", "x", "a"), ("put", "x", "none")
        self.assertEqual(self.place([good, bad, None], [None], [None]), ("start", 1))
        self.assertEqual(self.place([good], [good, good, bad, ("leave",), good], None), ("turn", 2))
        self.assertEqual(self.place([good], [good], [good, ("leave",), bad]), ("end", 1))
        self.assertEqual(self.place([], [("leave",), bad], [bad]), ("turn", 0))


if __name__ == "__main__":
    unittest.main()
