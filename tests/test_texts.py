"""Points [42], [43] and [52]: loops as texts."""

import random
import unittest

from tests import drawn
from tests.odd import Text
from unknowncalls.errors import BadLine, BadStatement
from unknowncalls.loops import Loop
from unknowncalls.names import Names
from unknowncalls.texts import read_loop, write_loop

NAMES = Names(["a", "b"], {"f": 1, "g": 2, "hc": 1}, {"p": 1, "q": 2}, {"d": 0, "tell": 1, "two": 2})

TEXT = """\
start
  x = a
  y = f(x)
  z = do d()
turn
  if same(item, x)
    x = item
    if q(x, y)
      leave
    else
      do two(x, item)
  else
    z = g(y, item)
  if p(z)
  if p(y)
  else
    do d()
    y = do tell(y)
  do tell(z)
end
  x = do two(a, b)
"""

LOOP = Loop(NAMES, [("put", "x", "a"), ("call", "y", "f", "x"), ("do", "z", "d")], [
    ("if", ("same", "item", "x"),
     [("put", "x", "item"), ("if", ("ask", "q", "x", "y"), [("leave",)], [("do", None, "two", "x", "item")])],
     [("call", "z", "g", "y", "item")]),
    ("if", ("ask", "p", "z"), [], []),
    ("if", ("ask", "p", "y"), [], [("do", None, "d"), ("do", "y", "tell", "y")]),
    ("do", None, "tell", "z"),
], [("do", "x", "two", "a", "b")])

SECTIONS = ("start", "turn", "end")


def text_with(word, lines):
    """A text with these lines in a section, and where the first of them stands."""
    rows = []
    for section in SECTIONS:
        rows.append(section)
        if section == word:
            at = len(rows)
            rows.extend(lines)
    return "".join(row + "\n" for row in rows), at


class Case(unittest.TestCase):
    def bad(self, text, index, names=NAMES):
        with self.assertRaises(BadLine) as caught:
            read_loop(names, text)
        self.assertIs(caught.exception.__class__, BadLine)
        self.assertEqual(caught.exception.index, index, text)

    def bad_line(self, line, words=SECTIONS, names=NAMES):
        """The line can stand nowhere in these sections: alone, behind others, within ifs; what follows is not read."""
        for word in words:
            for ahead, blanks in (
                    ([], "  "), (["  x = a"], "  "), (["  if p(a)"], "    "), (["  if p(a)", "  else"], "    "),
                    (["  if p(a)", "    x = a", "  else", "    if p(b)", "      do d()"], "      ")):
                if ahead[-1:] == ["  else"] and line[:1] in ("", " "):
                    continue
                for behind in ([], ["nothing"], ["  else"]):
                    text, at = text_with(word, [*ahead, blanks + line, *behind])
                    self.bad(text, at + len(ahead), names)


class WriteTest(Case):
    def test_each_form(self):
        self.assertEqual(write_loop(LOOP), TEXT)
        self.assertEqual(write_loop(loop=Loop(NAMES, [], [], [])), "start\nturn\nend\n")

    def test_then_and_else(self):
        for then, other, lines in (
                ([], [], ["  if p(a)"]), ([("do", None, "d")], [], ["  if p(a)", "    do d()"]),
                ([], [("do", None, "d")], ["  if p(a)", "  else", "    do d()"])):
            text, _ = text_with("end", lines)
            told = Loop(NAMES, [], [], [("if", ("ask", "p", "a"), then, other)])
            self.assertEqual(write_loop(told), text)
            self.assertEqual(read_loop(NAMES, text), told)


class ReadTest(Case):
    def test_each_form(self):
        self.assertEqual(read_loop(NAMES, TEXT), LOOP)
        self.assertEqual(read_loop(names=NAMES, text=Text(TEXT)), LOOP)
        self.assertEqual(read_loop(NAMES, "start\nturn\nend\n"), Loop(NAMES, [], [], []))

    def test_example(self):
        names = Names(["a"], {"f": 1}, {}, {"tell": 1})
        told = read_loop(names, "start\nturn\n  do tell(f(f(item)))\nend\n")
        self.assertEqual(told.section("turn"), [
            ("call", "ha", "f", "item"), ("call", "hb", "f", "ha"), ("do", None, "tell", "hb")])
        self.assertEqual(told.registers()[-1], "hb")

    def test_words_of_sections_as_names(self):
        names = Names(["start"], {"turn": 1}, {"end": 1}, {"k": 0})
        text = "start\n  else_ = start\n".replace("else_", "x") + "turn\n  y = turn(start)\n  if end(item)\n    leave\nend\n  z = do k()\n"
        self.assertEqual(read_loop(names, text), Loop(
            names, [("put", "x", "start")], [("call", "y", "turn", "start"), ("if", ("ask", "end", "item"), [("leave",)], [])],
            [("do", "z", "k")]))
        plain = Names(["a"])
        told = read_loop(plain, "start\n  start = a\n  turn = start\n  end = turn\nturn\nend\n  turn = end\n")
        self.assertEqual(told.registers(), ["start", "turn", "end"])

    def statements(self, line, word="end", names=NAMES):
        text, _ = text_with(word, ["  " + line])
        return read_loop(names, text).section(word)

    def test_calls_within(self):
        for line, told in (
                ("x = f(f(a))", [("call", "ha", "f", "a"), ("call", "x", "f", "ha")]),
                ("x = g(g(a, f(b)), f(a))", [("call", "ha", "f", "b"), ("call", "hb", "g", "a", "ha"), ("call", "hd", "f", "a"),
                                            ("call", "x", "g", "hb", "hd")]),
                ("do two(f(a), f(b))", [("call", "ha", "f", "a"), ("call", "hb", "f", "b"), ("do", None, "two", "ha", "hb")]),
                ("x = do tell(hc(a))", [("call", "ha", "hc", "a"), ("do", "x", "tell", "ha")]),
                ("if same(f(a), g(b, a))", [("call", "ha", "f", "a"), ("call", "hb", "g", "b", "a"),
                                            ("if", ("same", "ha", "hb"), (), ())]),
                ("if q(b, f(f(f(a))))", [("call", "ha", "f", "a"), ("call", "hb", "f", "ha"), ("call", "hd", "f", "hb"),
                                         ("if", ("ask", "q", "b", "hd"), (), ())])):
            self.assertEqual(self.statements(line), told)

    def test_temporaries_begin_anew_with_each_statement(self):
        text, _ = text_with("turn", ["  x = f(f(a))", "  if p(f(x))", "    do tell(f(item))", "    y = f(f(x))", "  else",
                                     "    do two(f(a), f(b))"])
        self.assertEqual(read_loop(NAMES, text).section("turn"), [
            ("call", "ha", "f", "a"), ("call", "x", "f", "ha"), ("call", "ha", "f", "x"),
            ("if", ("ask", "p", "ha"),
             (("call", "ha", "f", "item"), ("do", None, "tell", "ha"), ("call", "ha", "f", "x"), ("call", "y", "f", "ha")),
             (("call", "ha", "f", "a"), ("call", "hb", "f", "b"), ("do", None, "two", "ha", "hb")))])

    def test_temporaries_are_no_words_of_the_text(self):
        text, _ = text_with("end", ["  x = g(f(a), f(b))", "  hb = a", "  y = hd"])
        with self.assertRaises(BadStatement) as caught:
            read_loop(NAMES, text)
        self.assertEqual(caught.exception.place, ("end", 4))
        text, _ = text_with("turn", ["  x = g(f(a), f(b))", "  if p(a)", "    leave", "  else", "    leave", "  do two(ha, hb)"])
        self.assertEqual([row[1] for row in read_loop(NAMES, text).section("turn")[:2]], ["hd", "he"])
        text, _ = text_with("end", ["  x = g(f(a), f(b))", "  hb = a", "  hd = hb"])
        self.assertEqual(read_loop(NAMES, text).section("end")[:3], [
            ("call", "ha", "f", "a"), ("call", "he", "f", "b"), ("call", "x", "g", "ha", "he")])

    def test_many_temporaries(self):
        line = "a"
        for _ in range(10):
            line = f"f({line})"
        line = "x = g(" + line + ", " + line.replace("a", "g(g(f(a), f(b)), g(g(f(a), f(a)), f(g(a, f(b)))))") + ")"
        told = self.statements(line)
        letters = "abdefghijklmnopqrstuvwxyz"
        names = ["h" + letter for letter in letters] + ["i" + letter for letter in letters.replace("d", "cd") if letter != "f"]
        self.assertGreater(len(told), 27)
        self.assertEqual([row[1] for row in told], names[:len(told) - 1] + ["x"])
        taken = [f"h{letter} = a" for letter in letters + "c" if letter != "c"] + ["ia = a"]
        text, _ = text_with("end", ["  " + row for row in taken] + ["  x = f(f(f(f(f(f(f(a)))))))"])
        told = read_loop(NAMES, text).section("end")[len(taken):]
        self.assertEqual([row[1] for row in told], ["ib", "ic", "id", "ie", "ig", "ih", "x"])

    def test_what_no_way_comes_to(self):
        text, _ = text_with("turn", ["  if p(item)", "    leave", "  else", "    leave", "  x = y", "  leave"])
        told = read_loop(NAMES, text)
        self.assertEqual(told.section("turn")[1:], [("put", "x", "y"), ("leave",)])
        self.assertEqual(write_loop(told), text)

    def test_written_and_read_again(self):
        chance = random.Random(42)
        for _ in range(800):
            names = chance.choice(drawn.NAMES)
            told = drawn.Drawing(chance, names, ("x", "y", "hh"), 6, 4).loop()
            self.assertEqual(read_loop(names, write_loop(told)), told)

    def test_large(self):
        lines, blanks = [], "  "
        for _ in range(20):
            lines += [f"{blanks}if p(item)", f"{blanks}  x = f(item)"]
            blanks += "  "
        text, _ = text_with("turn", lines + ["  do tell(f(f(f(f(f(f(f(f(f(f(item)))))))))))"] * 340)
        told = read_loop(NAMES, text)
        self.assertEqual(len(told.section("turn")), 1 + 340 * 11)
        self.assertEqual(read_loop(NAMES, write_loop(told)), told)


class BadLineTest(Case):
    def test_not_written_as_told(self):
        for line in (
                "", " ", "x", "x=a", "x = ", " = a", "x  = a", "x =  a", "x = a ", " x = a", "x = a = b", "x = f(a", "x = fa)",
                "x = f (a)", "x = f( a)", "x = f(a )", "x = f(a) ", "x = g(a,b)", "x = g(a,  b)", "x = g(a , b)", "x = g(a, b,)",
                "x = g(a, )", "x = g(, a)", "x = f((a))", "x = f(a))", "x = (a)", "x = f()", "x = f(a)b", "x = f(a)(b)",
                "f(a)", "do", "do ", "do d", "do d( )", "dod()", "do  d()", "x = do", "x = do d", "x = dod()", "do do d()",
                "x = do do d()", "x = y = do d()", "if", "if ", "if p", "if p(a) ", "if  p(a)", "ifp(a)", "if p(a):", "IF p(a)",
                "if (p(a))", "x = if p(a)", "else", "else ", "start", "turn", "end", "leave ", "leave()", "x = leave", "x = A",
                "x\t= a", "x = a\r", "x = a\t", "X = a", "x1 = a", "# x", "x = \u0430", "x = a;", "do d();", "None = do d()"):
            self.bad_line(line)

    def test_unknown_names(self):
        for line in ("x = k(a)", "x = p(a)", "x = d()", "x = a(b)", "x = same(a, b)", "do f(a)", "do p(a)", "do k(a)", "do a()",
                     "x = do f(a)", "x = do k()", "if f(a)", "if k(a)", "if a(b)", "if d()", "if do(a)", "if tell(a)",
                     "x = f(k(a))", "x = f(p(a))", "x = f(d())", "x = f(tell(a))", "do tell(tell(a))", "if p(p(a))",
                     "x = f(same(a, b))", "x = abcdefghi(a)", "x = item(a)", "x = f(a(b))"):
            self.bad_line(line)

    def test_another_number_of_values(self):
        for line in ("x = f(a, b)", "x = g(a)", "x = g(a, a, a)", "x = g()", "do d(a)", "do tell()", "do tell(a, b)", "do two(a)",
                     "x = do two(a, a, a)", "x = do d(a)", "if p()", "if p(a, b)", "if q(a)", "if same(a)", "if same(a, b, a)",
                     "if same()", "x = f(g(a))", "do tell(f(a, b))", "if p(f())"):
            self.bad_line(line)

    def test_sources(self):
        for name in ("f", "p", "d", "tell", "same", "do", "if", "leave", "else", "abcdefghi"):
            for line in (f"x = {name}", f"x = f({name})", f"do two(a, {name})", f"x = do tell({name})", f"if q({name}, a)",
                         f"if same(a, {name})", f"x = f(f({name}))"):
                self.bad_line(line)

    def test_registers(self):
        for name in ("a", "b", "f", "p", "tell", "item", "same", "do", "if", "leave", "else", "abcdefghi", "f(a)", ""):
            for line in (f"{name} = a", f"{name} = f(a)", f"{name} = do d()"):
                self.bad_line(line)

    def test_item_and_leave_outside_of_the_turn(self):
        for line in ("x = item", "x = f(item)", "do tell(f(item))", "if same(a, item)", "if p(f(item))", "leave"):
            self.bad_line(line, ("start", "end"))
        for line in ("x = item", "x = f(item)", "do tell(f(item))", "leave"):
            read_loop(NAMES, text_with("turn", ["  " + line])[0])

    def test_behind_a_leave(self):
        for line in ("x = a", "leave", "do d()", "if p(a)", "", "else"):
            self.bad(*self.plus(["  leave", "  " + line], 1))
            self.bad(*self.plus(["  if p(a)", "    leave", "    " + line], 2))
            self.bad(*self.plus(["  if p(a)", "  else", "    do d()", "    leave", "    " + line, "  x = a"], 4))

    def plus(self, lines, index):
        text, at = text_with("turn", lines)
        return text, at + index

    def test_else(self):
        for lines, index in (
                (["  if p(a)", "  else"], 1), (["  if p(a)", "  else", "  x = a"], 1), (["  if p(a)", "  else", "      x = a"], 1),
                (["  if p(a)", "  else", "   x = a"], 1), (["  if p(a)", "  else", "     x = a"], 1),
                (["  if p(a)", "  else", ""], 1), (["  if p(a)", "  else", "    "], 1), (["  if p(a)", "  else", "      "], 1),
                (["  if p(a)", "  else", "    wrong"], 2), (["  if p(a)", "  else", "    else"], 2),
                (["  if p(a)", "    x = a", "  else", "    x = a", "  else", "    x = a"], 4),
                (["  else", "    x = a"], 0), (["  x = a", "  else", "    x = a"], 1),
                (["  if p(a)", "    else", "      x = a"], 1), (["  if p(a)", "  x = a", "  else", "    x = a"], 2),
                (["  if p(a)", "    if p(b)", "  else"], 2), (["  if p(a)", "    if p(b)", "      else", "        x = a"], 2),
                (["  if p(a)", "else", "  x = a"], 1), (["  if p(a)", "   else", "    x = a"], 1)):
            for word in SECTIONS:
                text, at = text_with(word, lines)
                self.bad(text, at + index)

    def test_an_else_whose_next_line_is_that_of_a_section(self):
        self.bad("start\n  if p(a)\n  else\nturn\nend\n", 2)
        self.bad("start\nturn\nend\n  if p(a)\n  else\n", 4)
        self.bad("start\nturn\nend\n  if p(a)\n  else", 4)

    def test_blanks_ahead(self):
        for lines, index in (
                ([" x = a"], 0), (["   x = a"], 0), (["x = a"], 0), (["    x = a"], 0), (["  x = a", "    x = a"], 1),
                (["  if p(a)", "      x = a"], 1), (["  if p(a)", "   x = a"], 1), (["  if p(a)", "    x = a", "   x = a"], 2),
                (["  if p(a)", "    x = a", "      x = a"], 2), (["  x = a", ""], 1), (["  if p(a)", ""], 1), (["  "], 0),
                (["  if p(a)", "    "], 1), ([" "], 0), (["\tx = a"], 0), (["  if p(a)", "    if p(a)", "     x = a"], 2)):
            for word in SECTIONS:
                text, at = text_with(word, lines)
                self.bad(text, at + index)

    def test_sections(self):
        for text, index in (
                ("", 0), ("\n", 0), ("start\n", 1), ("start\nturn\n", 2), ("turn\nend\n", 0), ("start\nend\n", 1),
                ("start\nturn\nturn\nend\n", 2), (" start\nturn\nend\n", 0), ("start \nturn\nend\n", 0), ("start\n turn\nend\n", 1),
                ("start\nturn\nend\n\n", 3), ("start\nturn\nend\nend\n", 3), ("start\nturn\nend\nx = a\n", 3),
                ("start\nturn\nend\n  x = a\nturn\n", 4), ("start\n  x = a\n", 2), ("start\n  if p(a)\n", 2), ("Start\nturn\nend\n", 0),
                ("start\nturn\nend\n ", 3), ("start\r\nturn\r\nend\r\n", 0), ("x = a\n", 0), ("start\n\nturn\nend\n", 1)):
            self.bad(text, index)

    def test_a_last_line_without_a_line_feed(self):
        self.bad("start\nturn\nend", 2)
        self.bad("start\nturn", 1)
        self.bad("start", 0)
        self.bad("start\nturn\nend\n  x = a", 3)
        self.bad("start\nturn\nend\n  if p(a)", 3)
        self.bad("start\nturn\nend\n  if p(a)\n  else\n    x = a", 5)
        self.bad("start\nwrong\nturn\nend", 1)
        for at in range(1, len(TEXT)):
            rows = TEXT[:at].split("\n")
            if rows[-1].strip():
                self.bad(TEXT[:at], len(rows) - 1)

    def test_the_first_line(self):
        rows = TEXT.split("\n")[:-1]
        for at, row in enumerate(rows):
            is_first = rows[at - 1].endswith("else")
            for wrong, index in (("?", at - is_first), (row + " ", at), (" " + row, at - is_first)):
                self.bad("\n".join([*rows[:at], wrong, *rows[at + 1:]]) + "\n", index)

    def test_bad_statement_behind_bad_lines(self):
        text, at = text_with("end", ["  x = y", "  wrong"])
        self.bad(text, at + 1)
        for lines, place in (
                (["  x = y"], 0), (["  x = f(f(y))"], 0), (["  if p(a)", "    x = a", "  y = x"], 1),
                (["  x = g(f(a), f(y))"], 1)):
            for word in SECTIONS:
                with self.assertRaises(BadStatement) as caught:
                    read_loop(NAMES, text_with(word, lines)[0])
                self.assertEqual(caught.exception.place, (word, place))


if __name__ == "__main__":
    unittest.main()
