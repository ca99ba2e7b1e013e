"""Points [10] to [13] along single runs of loops that keep much and ask much, as it is found plainly."""

import random
import unittest

from tests.plain import Cannot, Section, first_state, state_of
from unknowncalls.closing import Known
from unknowncalls.loops import Loop
from unknowncalls.names import Names
from unknowncalls.pictures import picture_behind, run_from
from unknowncalls.runs import Pair
from unknowncalls.trials import impossible_pairs

DEEDS = {"tell": 1, "get": 0}
NAMES = [
    Names([], {"g": 2}, {}, DEEDS),
    Names(["a"], {"g": 2, "f": 1}, {"p": 1}, DEEDS),
    Names(["a", "b"], {"s": 2}, {"q": 2}, DEEDS, {"s": "swaps", "q": "both"}, apart=[("a", "b")]),
    Names([], {"s": 2, "h": 1}, {}, DEEDS, {"s": "swaps", "h": "settles"}),
    Names([], {"g": 2, "h": 1, "k": 1}, {"w": 2}, DEEDS, {"h": "settles", "k": "settles"}),
    Names([], {"g": 2}, {"r": 2}, DEEDS, {"r": "order"}),
    Names(["a"], {"f": 1, "h": 1}, {"r": 2, "p": 1}, DEEDS, {"r": "order", "h": "settles"}),
    Names([], {"f": 1}, {"r": 2}, DEEDS, {"r": "order"}),
]
LASTING = ["x", "y", "z", "u", "v"]
PASSING = ["m", "n", "o"]


def drawn_loop(chance, names):
    """A loop with five lasting registers, of which most statements call or ask something beside a value that goes."""
    start = [("put", name, chance.choice(names.constants)) if names.constants and chance.randrange(3) == 0
             else ("do", name, "get") for name in LASTING]
    turn = [("put", name, "item") for name in PASSING[:1]] + [("do", name, "get") for name in PASSING[1:]]
    turn += [drawn_statement(chance, names) for _ in range(chance.randrange(3, 12))]
    return Loop(names, start, turn, [])


def drawn_statement(chance, names):
    one, other = chance.choice(LASTING + PASSING), chance.choice(LASTING + PASSING[:2] * 3)
    pair = [one, other][::chance.choice((1, 1, 1, -1))]
    kind = chance.randrange(10)
    if kind < 5:
        name, many = chance.choice(list(names.functions().items()))
        return ("call", chance.choice(LASTING + PASSING), name, *pair[:many])
    if kind < 6:
        return ("put", chance.choice(LASTING), one)
    name, many = chance.choice([("same", 2), *list(names.tests().items()) * 2])
    test = (name, *pair) if name == "same" else ("ask", name, *pair[:many])
    return ("if", test, [("put", chance.choice(LASTING), one)] if chance.randrange(3) == 0 else [], [])


def features(picture):
    """What there is in a picture that is rare."""
    _, _, marks, calls, _, unlike, order, shares, squeezed = picture
    found = []
    if 1 in marks:
        found.append("touched")
    if any(row[2] == -1 for row in calls):
        found.append("gone")
    if shares:
        found.append("share")
    if any(len(share) > 2 for share in shares):
        found.append("long share")
    if any(result == -1 for share in shares for _, result in share):
        found.append("gone in a share")
    if len(shares) > 1:
        found.append("shares")
    if any(not is_over for _, _, is_over in order):
        found.append("weak")
    if squeezed:
        found.append("squeezed")
    return found


class RunTest(unittest.TestCase):
    def section(self, chance, run, begun, loops, word):
        """One section by answers that are drawn; returns the plain one, and how it ends."""
        state, holders, left = begun
        truths = []
        run.begin(word)
        while run.go():
            truth = chance.randrange(2) == 1
            trial = run.fork()
            trial.answer(truth)
            section = Section(loops, state.copy(), dict(holders), left, word)
            try:
                section.run((*truths, truth))
            except Cannot:
                self.assertFalse(trial.known.is_possible)
                truth = not truth
            else:
                self.assertTrue(trial.known.is_possible)
            truths.append(truth)
            run.answer(truth)
        section = Section(loops, state.copy(), dict(holders), left, word)
        return section, section.run(truths)

    def test_drawn(self):
        chance = random.Random(13)
        seen = {}
        for _ in range(1300):
            names = chance.choice(NAMES)
            one = drawn_loop(chance, names)
            other = Loop(names, [], [], []) if chance.randrange(3) else drawn_loop(chance, names)
            pair, begun = Pair(one, other), (*first_state(names), (False, False))
            run = pair.first_run()
            for index in range(4):
                section, found = self.section(chance, run, begun, (one, other), "turn" if index else "start")
                self.assertEqual(run.forgot is not None, found == "forgets")
                if found == "forgets":
                    self.assertEqual((run.side, run.forgot), (section.side, section.place))
                    seen["forgets"] = seen.get("forgets", 0) + 1
                    break
                self.assertEqual(run.is_parted(), section.parts())
                told = picture_behind(run)
                self.assertEqual(told, section.picture())
                for feature in features(told):
                    seen[feature] = seen.get(feature, 0) + 1
                run = run_from(pair, told)
                begun = (*state_of(names.rules(), told), told[0])
        rare = ("forgets", "touched", "gone", "share", "long share", "gone in a share", "shares", "weak", "squeezed")
        self.assertGreater(min(seen.get(feature, 0) for feature in rare), 10, seen)


class KnownTest(unittest.TestCase):
    def known(self, many, rules=None):
        return Known(rules or {}, many)

    def test_held_results_are_joined_beside_a_gone_one(self):
        for results in ([-1, 3, 4], [3, -1, 4], [3, 4, -1]):
            known = self.known(5, {"r": "order"})
            for value, result in enumerate(results):
                known.learn("f", [value], result)
            known.answer("r", [0, 1], False)
            known.answer("r", [1, 2], False)
            known.make_unlike(3, 4)
            self.assertFalse(known.is_noted)
            known.answer("r", [2, 0], False)
            self.assertFalse(known.is_possible)

    def test_held_results_of_a_share_are_joined_beside_a_gone_one(self):
        for results in ([-1, 3, 4], [3, -1, 4], [3, 4, -1]):
            known = self.known(5, {"r": "order"})
            known.shares = [list(enumerate(results))]
            known.answer("r", [0, 1], False)
            known.answer("r", [1, 2], False)
            known.make_unlike(3, 4)
            known.answer("r", [2, 0], False)
            self.assertFalse(known.is_possible)

    def test_gone_results_are_noted_not_joined(self):
        for results in ([-1, -1], [-1, 2], [2, -1]):
            known = self.known(3)
            known.learn("f", [0], results[0])
            known.learn("f", [1], results[1])
            self.assertFalse(known.is_noted)
            known.make_equal(0, 1)
            self.assertTrue(known.is_noted and known.is_possible)
            self.assertEqual(known.leaders(), [0, 2])

    def test_an_order_through_values_that_are_joined(self):
        known = self.known(6, {"r": "order"})
        known.answer("r", [1, 0], False)
        known.answer("r", [3, 2], False)
        known.make_equal(1, 2)
        self.assertIsNone(known.forced("r", [0, 3]))
        self.assertIs(known.forced("r", [3, 0]), False)
        known.make_unlike(4, 1)
        known.answer("r", [4, 0], False)
        known.make_equal(5, 3)
        known.make_unlike(0, 3)
        self.assertIs(known.forced("r", [0, 5]), True)
        self.assertIs(known.forced("same", [0, 5]), False)

    def test_unlike_ones_that_are_joined_with_others_are_ahead(self):
        known = self.known(3, {"r": "order"})
        known.answer("r", [1, 0], False)
        known.make_unlike(0, 2)
        known.make_equal(1, 2)
        self.assertIs(known.forced("r", [0, 1]), True)


class TrialTest(unittest.TestCase):
    """The pairs that cannot be equal are just those whose joining is impossible."""

    def known(self, chance, names):
        known = Known(names.rules(), chance.randrange(3, 9))
        for _ in range(chance.randrange(1, 14)):
            many = len(known.leads)
            values = [chance.randrange(many), chance.randrange(many)]
            kind = chance.randrange(8)
            trial = known.fork()
            if kind < 4:
                name, number = chance.choice(list(names.functions().items()))
                result = trial.fresh() if chance.randrange(2) else chance.randrange(many)
                trial.learn(name, values[:number], -1 if chance.randrange(9) == 0 else result)
            elif kind < 7:
                name, number = chance.choice([("same", 2), *list(names.tests().items()) * 2])
                trial.answer(name, values[:number], chance.randrange(2) == 1)
            else:
                trial.shares = trial.shares + [[(value, chance.randrange(-1, many)) for value in
                                                chance.sample(range(many), chance.randrange(2, min(many, 4) + 1))]]
                trial.make_equal(0, 0)
                if len({trial.leads[value] for value, _ in trial.shares[-1]}) < len(trial.shares[-1]):
                    continue
            if trial.is_possible:
                known = trial
        return known

    def check(self, known, pair, can_be):
        held = {lead: True for lead in known.leaders()}
        self.assertIs(known.can_be_equal(*pair), can_be)
        self.assertIs(pair not in impossible_pairs(known, held), can_be)

    def test_two_joinings_that_follow(self):
        for names in ("fh", "hf"):
            for is_unlike in (True, False):
                known = Known({}, 6)
                rows = {names[0]: (2, 3), names[1]: (4, 5)}
                for name in "fh":
                    known.learn(name, [0], rows[name][0])
                    known.learn(name, [1], rows[name][1])
                if is_unlike:
                    known.make_unlike(4, 5)
                self.check(known, (0, 1), not is_unlike)

    def test_joinings_that_follow_one_another(self):
        for is_unlike in (True, False):
            known = Known({}, 5)
            for name, results in (("f", (2, 3)), ("h", (3, 4))):
                known.learn(name, [0], results[0])
                known.learn(name, [1], results[1])
            if is_unlike:
                known.make_unlike(2, 4)
            self.check(known, (0, 1), not is_unlike)

    def test_results_that_an_order_holds_together(self):
        for is_unlike in (True, False):
            known = Known({"r": "order"}, 6)
            known.learn("f", [0], 2)
            known.learn("f", [1], 3)
            for between in (4, 5):
                known.answer("r", [between, 2], False)
                known.answer("r", [3, between], False)
            if is_unlike:
                known.make_unlike(4, 5)
            self.check(known, (0, 1), not is_unlike)

    def test_drawn(self):
        chance = random.Random(14)
        seen = {True: 0, False: 0}
        for _ in range(4000):
            known = self.known(chance, chance.choice(NAMES))
            leaders = known.leaders()
            held = {lead: True for lead in leaders if chance.randrange(4)}
            told = impossible_pairs(known, held)
            for pair in told:
                self.assertLess(*pair)
                self.assertTrue(pair[0] in held and pair[1] in held)
            for at, one in enumerate(leaders):
                for other in leaders[at + 1:]:
                    if one in held and other in held and not known.unlikes[one] >> other & 1:
                        can_be = known.can_be_equal(one, other)
                        seen[can_be] += 1
                        self.assertIs((one, other) not in told, can_be)
        self.assertGreater(min(seen.values()), 500, seen)


if __name__ == "__main__":
    unittest.main()
