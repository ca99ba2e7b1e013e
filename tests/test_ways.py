"""Points [6] and [7] against all ways through a loop, one by one, in loops made at random."""

import random
import unittest

from unknowncalls.errors import BadStatement
from unknowncalls.loops import Loop
from unknowncalls.names import Names

NAMES = Names(["a"], {"f": 1}, {"p": 1}, {"t": 1})
REGISTERS = ("x", "y", "z")


def made(chance, section, many, depth):
    """A list of statements that are right but for registers that may not be put."""
    statements = []
    for _ in range(many):
        kind = chance.randrange(10)
        source = chance.choice(("a", *REGISTERS, *REGISTERS, "item" if section == "turn" else "a"))
        if kind < 3 and depth:
            branches = [made(chance, section, chance.randrange(3), depth - 1) for _ in range(2)]
            statements.append(("if", ("ask", "p", chance.choice(("a", source))), *branches))
        elif kind < 8:
            statements.append(("put", chance.choice(REGISTERS), chance.choice(("a", source))))
        else:
            statements.append(("do", chance.choice((None, *REGISTERS)), "t", chance.choice(("a", source))))
    if section == "turn" and chance.randrange(3) == 0:
        statements.append(("leave",))
    return statements


def ways(place, statements):
    """All ways through statements: lists of pairs (place, statement), and whether the way leaves."""
    found = [([], False)]
    for index, statement in enumerate(statements):
        at = place + (index,)
        if statement[0] == "if":
            rest = ways(at + ("then",), statement[2]) + ways(at + ("else",), statement[3])
        else:
            rest = [([], statement[0] == "leave")]
        found = [way for way in found if way[1]] + [
            (done + [(at, statement)] + more, left)
            for done, is_left in found if not is_left for more, left in rest]
    return found


def places(place, statements):
    for index, statement in enumerate(statements):
        yield place + (index,), statement
        if statement[0] == "if":
            yield from places(place + (index, "then"), statement[2])
            yield from places(place + (index, "else"), statement[3])


def target(statement):
    return statement[1] if statement[0] in ("put", "call", "do") else None


def source(statement):
    return statement[1][-1] if statement[0] == "if" else statement[-1]


def lasting(start):
    rows = [{target(statement) for _, statement in way} for way, _ in ways(("start",), start)]
    return set.intersection(*rows) - {None}


def wrong_place(sections):
    for word, statements in sections.items():
        before = {"a"} if word == "start" else {"a"} | lasting(sections["start"])
        if word == "turn":
            before.add("item")
        through = ways((word,), statements)
        for place, statement in places((word,), statements):
            for way, _ in through:
                done = [row[0] for row in way]
                if place in done and statement != ("leave",):
                    put = before | {target(row[1]) for row in way[:done.index(place)]}
                    if source(statement) not in put:
                        return place
    return None


class WaysTest(unittest.TestCase):
    def test_as_on_all_ways(self):
        chance = random.Random(7)
        seen = {}
        for _ in range(6000):
            sections = {word: made(chance, word, chance.randrange(5), 2) for word in ("start", "turn", "end")}
            place = wrong_place(sections)
            seen[place and place[0]] = seen.get(place and place[0], 0) + 1
            try:
                told = Loop(NAMES, *sections.values())
            except BadStatement as error:
                self.assertEqual(error.place, place, sections)
                continue
            self.assertIsNone(place, sections)
            rows = [row for word in sections for row in places((word,), sections[word])]
            firsts = list(dict.fromkeys(target(row[1]) for row in rows if target(row[1])))
            self.assertEqual(told.places(), [row[0] for row in rows])
            self.assertEqual(told.registers(), firsts)
            self.assertEqual(told.lasting(), [name for name in firsts if name in lasting(sections["start"])])
        self.assertGreater(min(seen[word] for word in (None, "start", "turn", "end")), 300)


if __name__ == "__main__":
    unittest.main()
