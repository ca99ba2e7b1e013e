"""Points [23] to [25], [29] and [32] for loops that are drawn, as they are found plainly."""

import random
from fractions import Fraction

from tests import drawn
from tests.common import Case
from tests.plain import plain_deeds
from tests.plainly import PlainAlone, plain_picture_behind
from unknowncalls.dear import dearest, hoisted, turn_costs
from unknowncalls.errors import Forgotten
from unknowncalls.lassos import lasso
from unknowncalls.places import mended, needless, never, never_equal, order_at, settled, sure
from unknowncalls.running import deeds, trace
from unknowncalls.tales import Tale
from unknowncalls.walks import alike, forgetting


class DrawnTest(Case):
    def setUp(self):
        self.seen = {}

    def count(self, word):
        self.seen[word] = self.seen.get(word, 0) + 1

    def test_drawn(self):
        chance = random.Random(41)
        for _ in range(230):
            one, _ = drawn.pair(chance)
            plain = PlainAlone(one)
            if not plain.is_whole:
                continue
            weights = {name: chance.randrange(-5, 6) for name in [
                *one.names.functions(), *one.names.tests(), *one.names.deeds(), "same"] if chance.randrange(4)}
            if plain.forgotten is not None:
                self.check_forgotten(one, plain, weights)
                continue
            self.check_places(one, plain)
            self.check_lasso(one, plain)
            self.check_costs(one, plain, weights)
            self.check_worlds(chance, one)
            self.check_changed(chance, one)
        wanted = "forgotten sure unlike order needless settled never lasso none dear leaves mended".split()
        self.assertGreater(min(self.seen.get(word, 0) for word in wanted), 5, self.seen)

    def check_forgotten(self, one, plain, weights):
        self.count("forgotten")
        place = one.places()[0]
        works = [lambda: never(one), lambda: needless(one), lambda: settled(one), lambda: mended(one), lambda: sure(one, place),
                 lambda: never_equal(one, place), lambda: lasso(one), lambda: turn_costs(one, weights), lambda: dearest(one, weights)]
        for work in works:
            side, spot, answers = self.forgets(work)
            self.assertEqual((side, len(answers)), (1, plain.forgotten))
            self.assertIn(spot, one.places())
            self.assertEqual([told[1] for told in answers], [[] for _ in answers])
            for index in range(1, len(answers)):
                Tale(one, one.__class__(one.names, [], [], []), answers[:index])

    def check_places(self, one, plain):
        self.assertEqual(never(one), plain.never())
        self.assertEqual(list(needless(one).items()), list(plain.needless().items()))
        self.assertEqual(list(settled(one).items()), list(plain.settled().items()))
        for word, work in (("never", never), ("needless", needless), ("settled", settled)):
            if work(one):
                self.count(word)
        order = next((name for name, rule in one.names.rules().items() if rule == "order"), None)
        for place in one.places():
            told = sure(one, place), never_equal(one, place)
            self.assertEqual(told, (plain.sure(place), plain.never_equal(place)))
            for word, rows in zip(("sure", "unlike"), told):
                if rows:
                    self.count(word)
            if order is not None:
                self.assertEqual(order_at(one, place, order), plain.order_at(place))
                if plain.order_at(place):
                    self.count("order")

    def check_lasso(self, one, plain):
        names = list(one.names.deeds())
        for some in ([], names[:1], names):
            told = lasso(one, some)
            least = plain.shortest(some)
            if least is None:
                self.assertIsNone(told)
                self.count("none")
                continue
            ahead, around = told
            self.count("lasso")
            self.assertEqual(len(ahead) + len(around), least)
            self.assertGreater(min(len(ahead), len(around)), 0)
            self.assertEqual(plain_picture_behind(one, ahead), plain_picture_behind(one, ahead + around))
            # Gone round three times it is a run that does not leave, and does none of the deeds around.
            rows = ahead + around * 3
            tale = Tale(one, one.__class__(one.names, [], [], []), [(row, []) for row in rows])
            done = {name for section in tale.deeds(1)[len(ahead):] for name, _ in section}
            self.assertEqual(done & set(some), set())

    def check_costs(self, one, plain, weights):
        costs = plain.costs(weights)
        self.assertEqual(turn_costs(one, weights), (min(costs), max(costs)))
        told, wanted = dearest(one, weights), plain.dearest(weights)
        if wanted is None:
            self.assertIsNone(told)
            self.count("leaves")
            return
        above, below, surplus, (ahead, around) = told
        self.count("dear")
        self.assertEqual((above, below, surplus), (wanted[0].numerator, wanted[0].denominator, wanted[1]))
        pictures = [plain_picture_behind(one, ahead + around[:many]) for many in range(len(around) + 1)]
        self.assertEqual(pictures[0], pictures[-1])
        self.assertEqual(len(set(pictures)), len(around))
        edges = plain.edges(weights)
        total = sum(edges[pair] for pair in zip(pictures, pictures[1:]))
        self.assertEqual(Fraction(total, len(around)), wanted[0])
        self.assertEqual(len(ahead) - 1, min(plain.depths[picture] for picture in pictures))
        self.assertIs(surplus.__class__, int)

    def check_worlds(self, chance, one):
        """What is told of places is so in worlds."""
        told = {place: (sure(one, place), never_equal(one, place)) for place in one.places()}
        calls, ifs, places = needless(one), settled(one), never(one)
        for _ in range(6):
            world = drawn.world(chance, one.names, chance.randrange(1, 4))
            if world is None:
                continue
            items = [chance.randrange(world.size) for _ in range(chance.randrange(5))]
            results = [[chance.randrange(world.size) for _ in range(5)] for _ in range(len(items) + 2)]
            held = {}
            for item, section in zip([None, *items, None], trace(one, world, items, results)):
                env = {**held, **{name: world.constant(name) for name in one.names.constants}, "item": item}
                for place, value in section:
                    self.assertNotIn(place, places)
                    self.assertTrue(all(len({env[name] for name in group}) == 1 for group in told[place][0]))
                    self.assertTrue(all(env[first] != env[second] for first, second in told[place][1]))
                    if place in calls:
                        self.assertEqual(env[calls[place]], value)
                    self.assertIs(ifs.get(place, value), value)
                    statement = statement_at(one, place)
                    if statement[0] in ("put", "call", "do") and statement[1] is not None:
                        env[statement[1]] = value
                held = {name: env[name] for name in one.lasting()}

    def check_changed(self, chance, one):
        told, up = mended(one), hoisted(one)
        if not told == one:
            self.count("mended")
        self.assertEqual((never(told), needless(told), settled(told), mended(told)), ([], {}, {}, told))
        self.assertIs(alike(told, one), True)
        self.assertIsNone(forgetting(told, told))
        self.assertEqual(hoisted(up), up)
        for _ in range(6):
            world = drawn.world(chance, one.names, chance.randrange(1, 4))
            if world is not None:
                items = [chance.randrange(world.size) for _ in range(chance.randrange(5))]
                results = [[chance.randrange(world.size) for _ in range(5)] for _ in range(len(items) + 2)]
                wanted = plain_deeds(one, world, items, results)[0]
                self.assertEqual(deeds(told, world, items, results), wanted)
                self.assertEqual(deeds(up, world, items, results), wanted)

    def test_the_same_of_loops_made_anew(self):
        chance = random.Random(42)
        for _ in range(60):
            one, _ = drawn.pair(chance)
            names = one.names
            again = one.__class__(
                names.__class__(names.constants, names.functions(), names.tests(), names.deeds(), names.rules(), names.facts(),
                                names.apart()), *[one.section(word) for word in ("start", "turn", "end")])
            for work in (never, needless, settled, mended, lasso, lambda told: dearest(told, {"t": 1, "same": 2})):
                try:
                    told = work(one)
                except Forgotten as error:
                    self.assertEqual(self.forgets(work, again), (error.side, error.place, error.answers))
                else:
                    self.assertEqual(work(again), told)


def statement_at(loop, place):
    statement = loop.section(place[0])[place[1]]
    for branch, index in zip(place[2::2], place[3::2]):
        statement = statement[2 if branch == "then" else 3][index]
    return statement


if __name__ == "__main__":
    import unittest
    unittest.main()
