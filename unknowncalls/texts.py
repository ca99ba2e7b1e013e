"""Loops as texts: a line for each statement."""

from unknowncalls.errors import BadLine
from unknowncalls.fresh import free_names
from unknowncalls.loops import Loop
from unknowncalls.terms import read_term
from unknowncalls.words import LETTERS, as_name, as_text

STEP = "  "


def write_loop(loop):
    """The text of a loop."""
    lines = []
    for word in ("start", "turn", "end"):
        lines.append(word)
        lines.extend(_written(loop.section(word), STEP))
    return "".join([line + "\n" for line in lines])


def read_loop(names, text):
    """The loop with a text."""
    reader = LineReader(names, as_text(text))
    start, turn, end = [reader.read_section(word) for word in ("start", "turn", "end")]
    reader.check_end()
    return Loop(names, start, turn, end)


def _written(statements, blanks):
    lines = []
    for statement in statements:
        lines.append(blanks + _line(statement))
        if statement[0] == "if":
            lines.extend(_written(statement[2], blanks + STEP))
            if statement[3]:
                lines.append(blanks + "else")
                lines.extend(_written(statement[3], blanks + STEP))
    return lines


def _line(statement):
    word = statement[0]
    if word == "leave":
        return "leave"
    if word == "if":
        test = statement[1]
        return "if " + (_bracketed(test[0], test[1:]) if test[0] == "same" else _bracketed(test[1], test[2:]))
    if word == "put":
        return f"{statement[1]} = {statement[2]}"
    work = _bracketed(statement[2], statement[3:])
    if word == "do":
        work = "do " + work
    return work if statement[1] is None else f"{statement[1]} = {work}"


def _bracketed(name, sources):
    return f"{name}({', '.join(sources)})"


class LineReader:
    """Reads a text line by line; what cannot stand there is a bad line."""

    def __init__(self, names, text):
        self._lines = text.split("\n")
        # Behind the last line feed nothing stands; what stands there is a line without one.
        self._whole = len(self._lines) - 1
        if self._lines[-1] == "":
            self._lines.pop()
        self._at = 0
        self._constants = names.constants
        self._functions = names.functions()
        self._tests = {**names.tests(), "same": 2}
        self._deeds = names.deeds()
        self._taken = [*names.constants, *names.functions(), *names.tests(), *names.deeds()]
        letters = "".join([letter if letter in LETTERS else " " for letter in text])
        self._temporaries = free_names("h", names, letters.split(), len(text))
        self._section = None

    def read_section(self, word):
        """The statements of a section, from the line with its word on."""
        if self._next() != word:
            raise BadLine(self._at)
        self._section = word
        self._take()
        return self._block(STEP)

    def check_end(self):
        """No line may be left over."""
        if self._at < len(self._lines):
            raise BadLine(self._at)

    def _next(self):
        """The line that comes next, None if there is none."""
        return self._lines[self._at] if self._at < len(self._lines) else None

    def _take(self):
        """Goes over a line; one without a line feed cannot stand anywhere."""
        if self._at >= self._whole:
            raise BadLine(self._at)
        self._at += 1

    def _block(self, blanks):
        """The statements of the lines that stand in by these blanks."""
        statements = []
        while self._at < len(self._lines) and self._lines[self._at].startswith(blanks):
            if statements and statements[-1] == ("leave",):
                raise BadLine(self._at)
            statements.extend(self._read(blanks))
        return statements

    def _read(self, blanks):
        """The statement of the next line, behind those of the calls within it."""
        content = self._lines[self._at][len(blanks):]
        if not content.startswith("if "):
            statements = self._as_plain(content)
            self._take()
            return statements
        statements, test = self._as_test(content[len("if "):])
        self._take()
        then, other = self._block(blanks + STEP), []
        if self._next() == blanks + "else":
            if not self._stands_in(self._at + 1, blanks + STEP):
                raise BadLine(self._at)
            self._take()
            other = self._block(blanks + STEP)
        return statements + [("if", test, then, other)]

    def _stands_in(self, at, blanks):
        """Whether there is a line that stands in by just these blanks."""
        line = self._lines[at] if at < len(self._lines) else ""
        return line.startswith(blanks) and line[len(blanks):len(blanks) + 1] not in ("", " ")

    def _as_plain(self, content):
        """The statements of a line that is no if."""
        if content == "leave" and self._section == "turn":
            return [("leave",)]
        if content.startswith("do "):
            return self._as_work(None, content)
        target, sign, rest = content.partition(" = ")
        if sign == "" or not self._is_free(target):
            raise BadLine(self._at)
        return self._as_work(target, rest)

    def _as_work(self, target, text):
        """The statements of a do, a call or a put into a register."""
        is_do = text.startswith("do ")
        term = read_term(text[len("do "):] if is_do else text)
        ahead = []
        if isinstance(term, str) and not is_do:
            return [("put", target, self._source(term, ahead))]
        if not isinstance(term, tuple):
            raise BadLine(self._at)
        name, terms = term
        table = self._deeds if is_do else self._functions
        sources = self._sources(terms, table.get(name), ahead)
        return ahead + [("do" if is_do else "call", target, name, *sources)]

    def _as_test(self, text):
        """The calls within a test, and the test."""
        term = read_term(text)
        if not isinstance(term, tuple):
            raise BadLine(self._at)
        name, terms = term
        ahead = []
        sources = self._sources(terms, self._tests.get(name), ahead)
        return ahead, (name, *sources) if name == "same" else ("ask", name, *sources)

    def _sources(self, terms, many, ahead):
        if many != len(terms):
            raise BadLine(self._at)
        return [self._source(term, ahead) for term in terms]

    def _source(self, term, ahead):
        """The source that a term is; a call is done ahead, into a temporary register."""
        if isinstance(term, str):
            is_item = term == "item" and self._section == "turn"
            if term not in self._constants and not is_item and not self._is_free(term):
                raise BadLine(self._at)
            return term
        name, terms = term
        sources = self._sources(terms, self._functions.get(name), ahead)
        target = self._temporaries[len(ahead)]
        ahead.append(("call", target, name, *sources))
        return target

    def _is_free(self, word):
        """Whether a word can be a register."""
        return as_name(word) is not None and word not in self._taken
