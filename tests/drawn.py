"""Names, loops and worlds that are drawn at random, always the same by the same chance."""

import itertools

from unknowncalls.loops import Loop
from unknowncalls.names import Names
from unknowncalls.worlds import World

NAMES = [
    Names(["a"], {"f": 1, "g": 2}, {"p": 1}, {"t": 1}),
    Names(["a", "b"], {"f": 1, "h": 1}, {"p": 1, "q": 2}, {"t": 1, "d": 0}, {"h": "settles", "q": "both"}),
    Names(["a"], {"s": 2, "f": 1}, {"r": 2}, {"t": 1}, {"s": "swaps", "r": "order"}),
    Names(["a", "b"], {"g": 2, "h": 1}, {"r": 2, "p": 1}, {"u": 2, "t": 1},
          {"r": "order", "h": "settles"}, [("r", ["a", "b"], True), ("h", ["a"], "a")], [("a", "b")]),
    Names([], {"s": 2, "h": 1, "k": 1}, {"r": 2}, {"t": 1}, {"s": "swaps", "h": "settles", "k": "settles", "r": "order"}),
    Names(["a", "b"], {"f": 1, "g": 2}, {"p": 1, "q": 2}, {"t": 1}, {"q": "both"},
          [("f", ["a"], "b"), ("p", ["b"], False), ("q", ["a", "b"], True), ("g", ["a", "a"], "b")]),
    Names(["a"], {"g": 2}, {"q": 2}, {"t": 1}),
    Names([], {"f": 1}, {"r": 2}, {"t": 1}, {"r": "order"}),
]


class Drawing:
    """Draws loops over some names; how many registers and statements is told."""

    def __init__(self, chance, names, registers=("x", "y"), many=4, depth=2):
        self.chance, self.names, self.registers, self.many, self.depth = chance, names, registers, many, depth
        self.leaves = True

    def loop(self, start=2, end=2, leaves=True):
        self.leaves = leaves
        put = set()
        first, lasting = self.block("start", put, self.chance.randrange(start + 1), 1)
        turn, _ = self.block("turn", lasting, self.chance.randrange(1, self.many + 1), self.depth)
        last, _ = self.block("end", lasting, self.chance.randrange(end + 1), 1)
        return Loop(self.names, first, turn, last)

    def block(self, section, put, many, depth):
        """Statements, and the registers that are put behind them (None behind a leave)."""
        statements, put = [], set(put)
        for _ in range(many):
            statement, put = self.statement(section, put, depth)
            if statement is None:
                continue
            statements.append(statement)
            if put is None:
                return statements, None
        if section == "turn" and self.leaves and depth < self.depth and self.chance.randrange(6) == 0:
            return statements + [("leave",)], None
        return statements, put

    def source(self, section, put):
        choices = [*self.names.constants, *sorted(put), *sorted(put)] + ["item", "item"] * (section == "turn")
        return self.chance.choice(choices) if choices else None

    def sources(self, section, put, many):
        found = [self.source(section, put) for _ in range(many)]
        return None if None in found else found

    def statement(self, section, put, depth):
        kind = self.chance.choice(["put", "call", "call", "call", "do", "if", "if"])
        target = self.chance.choice(self.registers)
        if kind == "if" and depth:
            tests = [("same", 2), *self.names.tests().items()]
            name, many = self.chance.choice(tests)
            sources = self.sources(section, put, many)
            if sources is None:
                return None, put
            test = (name, *sources) if name == "same" else ("ask", name, *sources)
            then, one = self.block(section, put, self.chance.randrange(3), depth - 1)
            other, two = self.block(section, put, self.chance.randrange(3), depth - 1)
            if one is None or two is None:
                return ("if", test, then, other), one if two is None else two
            return ("if", test, then, other), one & two
        if kind == "put":
            source = self.source(section, put)
            return (None, put) if source is None else (("put", target, source), put | {target})
        table = self.names.deeds() if kind == "do" else self.names.functions()
        name = self.chance.choice(list(table))
        sources = self.sources(section, put, table[name])
        if sources is None:
            return None, put
        if kind == "do":
            if self.chance.randrange(4):
                return ("do", None, name, *sources), put
            return ("do", target, name, *sources), put | {target}
        return ("call", target, name, *sources), put | {target}


def altered(chance, loop, drawing):
    """The loop with a small change: a statement left out, doubled, exchanged for another, or put elsewhere."""
    sections = {word: loop.section(word) for word in ("start", "turn", "end")}
    for _ in range(20):
        word = chance.choice(["start", "turn", "turn", "turn", "end"])
        block = list(sections[word])
        kind = chance.randrange(4)
        if kind == 0 and block:
            block.pop(chance.randrange(len(block)))
        elif kind == 1 and len(block) > 1:
            at = chance.randrange(len(block) - 1)
            block[at], block[at + 1] = block[at + 1], block[at]
        elif kind == 2 and block:
            at = chance.randrange(len(block))
            block.insert(at, block[at])
        else:
            put = set(loop.lasting())
            statement, _ = drawing.statement(word, put, 1)
            if statement:
                block.insert(chance.randrange(len(block) + 1), statement)
        try:
            return Loop(loop.names, **{**sections, word: block})
        except ValueError:
            continue
    return loop


def world(chance, names, size):
    """A world of this size, None if the one that was drawn does not keep the facts."""
    constants = {name: chance.randrange(size) for name in names.constants}
    functions, tests = {}, {}
    for name, many in names.functions().items():
        rule = names.rules().get(name)
        table = {}
        if rule == "settles":
            fixed = chance.sample(range(size), chance.randrange(1, size + 1))
            table = {(thing,): thing if thing in fixed else chance.choice(fixed) for thing in range(size)}
        else:
            for things in itertools.product(range(size), repeat=many):
                table[things] = chance.randrange(size)
                if rule == "swaps":
                    table[things] = table.get(things[::-1], table[things])
        functions[name] = table
    for name, many in names.tests().items():
        rule = names.rules().get(name)
        if rule == "order":
            tests[name] = chance.sample(range(size), size)
        else:
            rows = list(itertools.product(range(size), repeat=many))
            tests[name] = [row for row in rows if chance.randrange(2)]
    try:
        return World(names, size, constants, functions, tests)
    except ValueError:
        return None


SHARING = [
    Names([], {"g": 2}, {}, {"t": 1, "d": 0}),
    Names(["a"], {"g": 2}, {"p": 1}, {"t": 1, "d": 0}),
    Names([], {"g": 2}, {}, {"t": 1, "d": 0}, {"g": "swaps"}),
    Names(["a"], {"g": 2, "h": 1}, {}, {"t": 1, "d": 0}, {"g": "swaps", "h": "settles"}),
]
ORDERING = [
    Names([], {"f": 1}, {"r": 2}, {"t": 1, "d": 0}, {"r": "order"}),
    Names(["a"], {"f": 1}, {"r": 2}, {"t": 1, "d": 0}, {"r": "order"}),
    Names([], {"h": 1, "f": 1}, {"r": 2}, {"t": 1, "d": 0}, {"r": "order", "h": "settles"}),
    Names(["a", "b"], {"h": 1}, {"r": 2}, {"t": 1, "d": 0}, {"r": "order", "h": "settles"}, [("r", ["b", "a"], False)]),
]


def begun(chance, names, registers):
    """A start that puts all of these registers: results of deeds, and constants."""
    return [("put", name, chance.choice(names.constants)) if names.constants and chance.randrange(2)
            else ("do", name, "d") for name in registers]


def sharing(chance):
    """Loops that call a function of kept values beside the item again and again."""
    names = chance.choice(SHARING)
    registers = ["x", "y", "u", "v"]
    turn = []
    for _ in range(chance.randrange(2, 5)):
        kind, source = chance.randrange(12), chance.choice(["x", "y", "item", "x", "y", "u", "v"])
        if kind < 2 and "h" in names.functions():
            turn.append(("call", chance.choice("uvuv"), "h", source))
        elif kind < 6:
            pair = [source, chance.choice(["item", "item", "item", "u"])]
            turn.append(("call", chance.choice("uvuvxw"), "g", *pair[::chance.choice((1, 1, -1))]))
        elif kind < 7:
            turn.append(("put", chance.choice(registers), source))
        elif kind < 8:
            turn.append(("do", None, "t", chance.choice(registers)))
        elif kind < 9:
            turn.append(("do", chance.choice(registers), "d"))
        else:
            branches = [[statement for statement in (
                ("do", None, "t", chance.choice(registers)),
                ("put", chance.choice(registers), chance.choice(registers)),
                ("call", chance.choice(registers), "g", chance.choice("xy"), "item"))
                if chance.randrange(3) == 0] for _ in range(2)]
            test = ("same", chance.choice(registers), chance.choice(registers))
            if "p" in names.tests() and chance.randrange(2):
                test = ("ask", "p", source)
            turn.append(("if", test, *branches))
    return Loop(names, begun(chance, names, registers), turn, [])


def ordering(chance):
    """Loops that ask an order again and again."""
    names = chance.choice(ORDERING)
    registers = ["x", "y", "z"][:chance.randrange(2, 4)]

    def block(many, depth):
        statements = []
        for _ in range(many):
            kind = chance.randrange(12)
            one, other = chance.choice(["item", *registers]), chance.choice(["item", *registers])
            if kind < 2:
                statements.append(("call", chance.choice(["w", *registers]), chance.choice(list(names.functions())), one))
            elif kind < 3:
                statements.append(("put", chance.choice(registers), one))
            elif kind < 4:
                statements.append(("do", None, "t", one))
            elif kind < 5:
                statements.append(("do", chance.choice(registers), "d"))
            elif depth:
                test = ("ask", "r", one, other) if chance.randrange(4) else ("same", one, other)
                statements.append(("if", test, block(chance.randrange(4), depth - 1), block(chance.randrange(4), depth - 1)))
        return statements

    return Loop(names, begun(chance, names, registers), block(chance.randrange(2, 5), 2), [])


def reckoning(chance):
    """Loops that call functions of constants, of kept values and of what was called, again and again."""
    names = chance.choice([names for names in NAMES + SHARING + ORDERING if names.constants and "d" in names.deeds()])
    registers = ["x", "y", "u"][:chance.randrange(1, 4)]
    drawing = Drawing(chance, names, registers)
    turn = []
    for _ in range(chance.randrange(2, 6)):
        if chance.randrange(6):
            name, target = chance.choice(list(names.functions())), chance.choice("vvvwx")
            put = [statement[1] for statement in turn if statement[0] == "call"]
            sources = [chance.choice([*names.constants, *registers, *put, *put, *put]) for _ in range(names.functions()[name])]
            turn.append(("call", target, name, *sources))
        else:
            turn.append(drawing.statement("turn", set(registers), 1)[0])
    return Loop(names, begun(chance, names, registers), turn, [])


def pair(chance):
    """Two loops with equal names: often the same one, or one that is a little altered."""
    kind = chance.randrange(6)
    if kind < 2:
        one = (sharing, ordering)[kind](chance)
        drawing = Drawing(chance, one.names, one.registers(), 4, 1)
    else:
        names = chance.choice(NAMES)
        drawing = Drawing(chance, names, ("x", "y") if chance.randrange(2) else ("x", "y", "z"), chance.choice([3, 4, 5]))
        one = drawing.loop()
    kind = chance.randrange(4)
    if kind == 0:
        return one, one
    if kind == 1:
        return one, Loop(one.names, [], [], [])
    return one, altered(chance, one, drawing) if kind == 2 else drawing.loop()
