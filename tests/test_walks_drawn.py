"""Points [8] to [16] and [22] for loops that are drawn: pictures and runs as they are found plainly."""

import random
import unittest

from tests import drawn
from tests.plain import PlainWalk, forgets_at, plain_deeds
from unknowncalls.errors import Forgotten, Parted
from unknowncalls.loops import Loop
from unknowncalls.running import deeds
from unknowncalls.tales import Tale
from unknowncalls.walks import alike, forgetting, parting, table


def outcome(one, other):
    """How a parting ends, and with what."""
    try:
        told = parting(one, other)
    except Forgotten as error:
        return "forgotten", error
    return ("alike", None) if told is None else ("parted", told)


class Case(unittest.TestCase):
    def check(self, chance, one, other):
        """Checks all that is told of two loops; returns how they end, None if that is too large to be found."""
        plain = PlainWalk(one, other, most=12)
        if not plain.is_whole:
            return None
        kind, told = outcome(one, other)
        expected = "parted" if plain.parted is not None else "forgotten" if plain.forgotten else "alike"
        self.assertEqual(kind, expected)
        self.check_forgetting(one, other, plain.forgotten)
        self.assertEqual(outcome(other, one)[0], kind)
        if kind == "parted":
            self.check_parted(one, other, told, plain.parted)
        elif kind == "forgotten":
            self.assertEqual(len(told.answers), plain.forgotten)
            for work in (alike, table):
                with self.assertRaises(Forgotten) as caught:
                    work(one, other)
                error = caught.exception
                self.assertEqual((error.side, error.place, error.answers), (told.side, told.place, told.answers))
        else:
            self.assertIs(alike(one, other), True)
            self.check_table(one, other, plain.pictures)
            self.check_worlds(chance, one, other)
        return kind

    def check_forgetting(self, one, other, sections):
        told = forgetting(one, other)
        if sections is None:
            self.assertIsNone(told)
            return
        side, place, answers = told
        self.assertEqual(len(answers), sections)
        self.assertIn(place[0], ("start",) if sections == 1 else ("turn", "end"))
        self.assertEqual(forgets_at(one, other, answers, place[0]), (side, place))
        self.assertEqual(told, forgetting(one, other))

    def check_parted(self, one, other, told, items):
        self.assertIs(alike(one, other), False)
        with self.assertRaises(Parted):
            table(one, other)
        self.assertIs(told.__class__, tuple)
        world, things, results = told
        self.assertEqual((len(things), len(results)), (items, items + 2))
        done = [deeds(loop, world, things, results) for loop in (one, other)]
        self.assertEqual(done, [plain_deeds(loop, world, things, results)[0] for loop in (one, other)])
        self.assertNotEqual(*done)
        self.assertEqual(told, parting(one, other))

    def check_table(self, one, other, pictures):
        told = table(one, other)
        self.assertEqual(len(set(told)), len(told))
        self.assertEqual(set(told), set(pictures))
        self.assertEqual(told, table(one, other))

    def check_worlds(self, chance, one, other):
        for _ in range(20):
            world = drawn.world(chance, one.names, chance.randrange(1, 4))
            if world is None:
                continue
            items = [chance.randrange(world.size) for _ in range(chance.randrange(7))]
            results = [[chance.randrange(world.size) for _ in range(5)] for _ in range(len(items) + 2)]
            self.assertEqual(deeds(one, world, items, results), deeds(other, world, items, results))


class DrawnTest(Case):
    def test_drawn(self):
        chance = random.Random(11)
        seen = {}
        for _ in range(900):
            one, other = drawn.pair(chance)
            kind = self.check(chance, one, other)
            seen[kind] = seen.get(kind, 0) + 1
        self.assertGreater(min(seen[kind] for kind in ("parted", "alike", "forgotten")), 25, seen)

    def test_one_beside_itself(self):
        chance = random.Random(12)
        for _ in range(300):
            names = chance.choice(drawn.NAMES)
            one = drawn.Drawing(chance, names).loop()
            again = Loop(names, *[one.section(word) for word in ("start", "turn", "end")])
            kind, told = outcome(one, again)
            self.assertIn(kind, ("alike", "forgotten"))
            if kind == "forgotten":
                self.assertEqual((told.side, told.place, told.answers), forgetting(one, one))

    def test_forgotten_answers_are_those_of_a_tale(self):
        chance = random.Random(13)
        seen = 0
        for _ in range(600):
            one, other = drawn.pair(chance)
            told = forgetting(one, other)
            if told is None:
                continue
            seen += 1
            side, place, answers = told
            for index, pair in enumerate(answers[:-1]):
                Tale(one, other, answers[:index + 1])
            self.assertIs(answers.__class__, list)
            for pair in answers:
                self.assertIs(pair.__class__, tuple)
                self.assertEqual([part.__class__ for part in pair], [list, list])
            if side == 1:
                self.assertEqual(answers[-1][1], [])
        self.assertGreater(seen, 30)


if __name__ == "__main__":
    unittest.main()
