"""Point [26]: which calls are worth a trial. Runs that forget, and other calls that are kept."""

import random

from tests import drawn
from tests.common import Case, call, do, maker, put, same
from unknowncalls.keeping import remedy
from unknowncalls.kept import KeptPair
from unknowncalls.loops import Loop
from unknowncalls.names import Names
from unknowncalls.pictures import picture_behind, run_from
from unknowncalls.remedies import Trials
from unknowncalls.walks import forgetting

NAMES = Names(["a", "b"], {"f": 1, "g": 1}, {"p": 1}, {"t": 1, "d": 0})
loop = maker(NAMES)
CHAIN = loop([], [call("u", "f", "a"), call("v", "f", "u"), call("w", "f", "v"), do("t", "w")])


class WorthTest(Case):
    def worth(self, one, other, calls, wanted):
        trials = Trials(KeptPair(one, other))
        self.assertFalse(trials.is_enough([]))
        self.assertEqual(trials.is_enough(calls), wanted is None)
        if wanted is not None:
            found = [(side, place) for side in (1, 2) for place in (one, other)[side - 1].places()
                     if trials.is_worth(calls, (side, place))]
            self.assertEqual(found, wanted)

    def test_those_that_have_the_gone_value(self):
        self.worth(CHAIN, CHAIN, [], [(1, ("turn", 0)), (2, ("turn", 0))])
        self.worth(CHAIN, CHAIN, [(2, ("turn", 0))], [(1, ("turn", 1)), (2, ("turn", 1))])
        self.worth(CHAIN, CHAIN, [(1, ("turn", 0)), (2, ("turn", 1))], None)
        self.worth(CHAIN, loop([], [call("u", "f", "a"), call("u", "g", "u")]), [], [(1, ("turn", 0)), (2, ("turn", 0))])
        self.worth(CHAIN, loop([], [], [call("u", "f", "a")]), [], [(1, ("turn", 0))])

    def test_values_that_became_equal(self):
        # f of x and f of a are the same where x is a, and that is told behind both.
        one = loop([("do", "x", "d")], [call("u", "f", "x"), call("v", "f", "a"), same("x", "a", [call("w", "g", "u")])])
        self.worth(one, loop(), [], [(1, ("turn", 0)), (1, ("turn", 1))])

    def test_both(self):
        trials = Trials(KeptPair(CHAIN, loop()))
        first, second, third = [(1, ("turn", number)) for number in range(3)]
        self.assertEqual([trials.is_enough(calls) for calls in ([], [first])], [False, False])
        self.assertTrue(trials.is_worth_both(first, second))
        self.assertFalse(trials.is_worth_both(first, third))
        self.assertFalse(trials.is_worth_both(second, third))
        self.assertTrue(trials.is_enough([first, second]))

    def test_at_an_answer(self):
        # Whatever was called ahead of the section can help, what is called in it cannot.
        one = loop([("do", "x", "d"), ("do", "y", "d"), call("u", "f", "x"), call("w", "g", "u"), call("v", "f", "y"), put("u", "a")],
                   [call("z", "f", "item"), same("x", "y", [do("t", "a")])])
        self.assertEqual(forgetting(one, loop()), (1, ("turn", 1), [([], []), ([True], [])]))
        self.worth(one, loop(), [], [(1, ("start", number)) for number in (2, 3, 4)])
        self.worth(one, loop(), [(1, ("start", 3))], [(1, ("start", number)) for number in (2, 3, 4)])
        self.worth(one, loop(), [(1, ("start", 2))], None)
        self.assertEqual(remedy(one, loop()), [(1, ("start", 2))])


class RunsTest(Case):
    def test_other_calls_do_not_help(self):
        chance = random.Random(54)
        kinds = {"forgets": 0, "helped": 0, "not helped": 0}
        for _ in range(1500):
            one, other = self.drawn_pair(chance)
            pair = KeptPair(one, other)
            calls = call_places(1, one) + call_places(2, other)
            trials = Trials(pair)
            for _ in range(4):
                some = chance.sample(calls, min(len(calls), chance.randrange(3)))
                pair.keep(some)
                told = forgetting_run(chance, pair)
                if told is not None:
                    self.check(trials, pair, calls, some, told, kinds)
        self.assertGreater(min(kinds.values()), 500, kinds)

    def drawn_pair(self, chance):
        one = drawn.reckoning(chance)
        if chance.randrange(2):
            one, other = drawn.pair(chance)
            return (one, other) if one.names.constants else self.drawn_pair(chance)
        return one, chance.choice([one, Loop(one.names, [], [], [])])

    def check(self, trials, pair, calls, some, told, kinds):
        """A run that forgets with some calls kept forgets with one more as well, unless this one can help."""
        self.assertEqual(trials._gone_again(told), told)
        helpers = trials._helpers_of(told)
        kinds["forgets"] += 1
        for one in calls:
            if one not in some:
                pair.keep([*some, one])
                again = trials._gone_again(told)
                if one not in helpers:
                    self.assertIsNotNone(again)
                    kinds["not helped"] += 1
                elif again is None:
                    kinds["helped"] += 1


def call_places(side, one):
    """The calls of a loop, as pairs of its side and a place."""
    def go(place, block):
        for index, statement in enumerate(block):
            if statement[0] == "call":
                yield side, place + (index,)
            if statement[0] == "if":
                yield from go(place + (index, "then"), statement[2])
                yield from go(place + (index, "else"), statement[3])
    return [row for word in ("start", "turn", "end") for row in go((word,), one.section(word))]


def forgetting_run(chance, pair):
    """A run of at most seven sections that is answered by chance, None if it does not forget."""
    run, answers = pair.first_run(), []
    for word in ["start"] + ["turn"] * chance.randrange(6) + ["end"]:
        if word != "start":
            run = run_from(pair, picture_behind(run))
        run.begin(word)
        while run.go():
            truths = [truth for truth in (False, True) if answered(run, truth).known.is_possible]
            run.answer(chance.choice(truths))
        answers.append(run.told)
        if run.forgot is not None:
            return run.side + 1, run.forgot, answers
    return None


def answered(run, truth):
    fork = run.fork()
    fork.answer(truth)
    return fork


class KeptPairTest(Case):
    def test_keep(self):
        pair = KeptPair(CHAIN, loop())
        plain = (pair.steps, pair.lastings)
        pair.keep([(1, ("turn", 0))])
        self.assertEqual([len(pair.steps[0][word]) for word in ("start", "turn", "end")], [1, 5, 0])
        self.assertEqual(([len(names) for names in pair.lastings], pair.steps[1]), ([1, 0], plain[0][1]))
        pair.keep([])
        self.assertEqual((pair.steps, tuple(list(names) for names in pair.lastings)), plain)

    def test_the_loops_are_left_as_they_are(self):
        before = CHAIN.section("turn")
        remedy(CHAIN, CHAIN)
        self.assertEqual((CHAIN.section("turn"), CHAIN.registers()), (before, ["u", "v", "w"]))


if __name__ == "__main__":
    import unittest
    unittest.main()
