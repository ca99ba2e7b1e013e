"""Points [27] and [28]: runs that are gone through step by step."""

import random

from tests import drawn
from tests.common import LEAVE, Case, ask, call, do, maker, put, same
from tests.odd import Raises, Text, Yes, no_names, no_texts
from unknowncalls.errors import BadTruth, Impossible, IsOver, NoQuestion, Unanswered, UnlikeNames
from unknowncalls.living import Live
from unknowncalls.names import Names
from unknowncalls.tales import Tale

NAMES = Names(["a"], {"f": 1}, {"p": 1, "r": 2}, {"t": 1, "d": 0}, {"r": "order"})
loop = maker(NAMES)
ONE = loop([put("x", "a")], [same("item", "x", [do("t", "x")], [ask("p", ["item"], [put("x", "item")])])], [ask("p", ["x"])])
OTHER = loop([], [ask("p", ["item"], [do("t", "item")])])


def told(live):
    """All that a live run tells of where it stands."""
    tale = live.tale() if live.question() is None else None
    return (live.question(), live.so_far(), live.is_over(), live.forced() if live.question() else "none",
            tale and (tale.groups(), tale.deeds(1), tale.deeds(2), tale.many()))


def stand(live):
    """The same, and what was taken back, told by doing it."""
    def walked(inner):
        rows = []
        while inner.again():
            rows.append(told(inner))
        while inner.undo():
            rows.append(told(inner))
        return rows
    return told(live), live.tried(walked)


class StepTest(Case):
    def test_steps(self):
        live = Live(ONE, OTHER)
        self.assertIsNone(live.question())
        self.assertEqual((live.so_far(), live.is_over()), ([([], [])], False))
        self.assertIsNone(live.item())
        self.assertEqual(live.question(), (1, ("turn", 0), ("same", "item", "x")))
        self.assertIsNone(live.forced())
        self.assertIsNone(live.answer(False))
        self.assertEqual(live.question(), (1, ("turn", 0, "else", 0), ("ask", "p", "item")))
        self.assertEqual(live.so_far(), [([], []), ([False], [])])
        live.answer(True)
        self.assertEqual(live.question(), (2, ("turn", 0), ("ask", "p", "item")))
        self.assertIs(live.forced(), True)
        live.answer(truth=True)
        self.assertIsNone(live.question())
        self.assertEqual(live.so_far(), [([], []), ([False, True], [True])])
        self.assertIsNone(live.finish())
        self.assertEqual((live.question(), live.forced(), live.is_over()), ((1, ("end", 0), ("ask", "p", "x")), True, False))
        live.answer(True)
        self.assertEqual((live.question(), live.is_over()), (None, True))
        self.assertEqual(live.so_far(), [([], []), ([False, True], [True]), ([True], [])])

    def test_by_names(self):
        live = Live(one=OTHER, other=ONE)
        live.item()
        self.assertEqual(live.question(), (1, ("turn", 0), ("ask", "p", "item")))
        self.assertEqual(live.tried(work=lambda inner: inner.answer(truth=False)), None)

    def test_questions_as_they_stand(self):
        one = loop([("do", "x", "d"), ask("r", ["x", "a"]), same("a", "x")])
        live = Live(one, loop())
        self.assertEqual(live.question(), (1, ("start", 1), ("ask", "r", "x", "a")))
        live.answer(True)
        self.assertEqual((live.question(), live.forced()), ((1, ("start", 2), ("same", "a", "x")), False))

    def test_leaves(self):
        one = loop([], [ask("p", ["item"], [LEAVE]), do("t", "item")], [do("d")])
        live = Live(one, OTHER)
        live.item()
        live.answer(True)
        live.answer(True)
        live.item()
        self.assertEqual(live.question(), (2, ("turn", 0), ("ask", "p", "item")))
        live.answer(False)
        live.finish()
        self.assertEqual(live.so_far(), [([], []), ([True], [True]), ([], [False]), ([], [])])
        self.assertEqual(live.tale().deeds(1), [[], [], [], [("d", ())]])

    def test_tale(self):
        live = Live(ONE, OTHER)
        self.assertEqual(live.tale().many(), 1)
        live.item()
        self.raised(Unanswered, live.tale)
        live.answer(True)
        self.raised(Unanswered, live.tale)
        live.answer(False)
        tale = live.tale()
        self.assertIs(tale.__class__, Tale)
        self.assertEqual((tale.groups(), tale.deeds(1)), ([(0, 1), (2,)], [[], [("t", (0,))]]))
        live.finish()
        self.assertEqual(live.forced(), False)
        live.answer(False)
        ended = live.tale()
        self.assertEqual(len(ended.deeds(1)), 3)
        wanted = Tale(ONE, OTHER, live.so_far(), True)
        self.assertEqual((ended.groups(), ended.deeds(1), ended.world()), (wanted.groups(), wanted.deeds(1), wanted.world()))

    def test_nothing_is_let_go(self):
        one = loop([], [call("v", "f", "a"), call("v", "f", "v"), do("t", "v")])
        live = Live(one, one)
        for _ in range(4):
            live.item()
        self.assertEqual(live.tale().deeds(1), [[], *[[("t", (3,))]] * 4])

    def test_forced(self):
        one = loop([("do", "x", "d"), ("do", "y", "d")], [ask("p", ["x"]), ask("p", ["y"]), same("x", "y")])
        live = Live(one, loop())
        self.raised(NoQuestion, live.forced)
        live.item()
        live.answer(True)
        self.assertIsNone(live.forced())
        live.answer(False)
        self.assertIs(live.forced(), False)
        self.assertEqual(live.so_far(), [([], []), ([True, False], [])])


class RefusedTest(Case):
    def refused(self, live, error, work, *given):
        """A call that is refused changes nothing."""
        before = stand(live)
        raised = self.raised(error, work, *given)
        self.assertEqual(stand(live), before)
        return raised

    def test_unlike_names(self):
        other = maker(Names(["a"]))()
        self.raised(UnlikeNames, Live, ONE, other)

    def test_no_truth(self):
        live = Live(ONE, OTHER)
        for step in (None, live.item):
            if step:
                step()
            for thing in [0, 1, None, "True", [], [True], (), Text("a"), Raises(), Yes(), 1.0] + no_names() + no_texts():
                if not isinstance(thing, bool):
                    # Also where no answer is wanted.
                    self.assertIs(self.raised(BadTruth, live.answer, thing).truth, thing)
        self.assertIs(self.refused(live, BadTruth, live.answer, 1).truth, 1)

    def test_no_question(self):
        live = Live(ONE, OTHER)
        self.refused(live, NoQuestion, live.answer, True)
        self.refused(live, NoQuestion, live.forced)
        live.item()
        live.answer(True)
        live.answer(True)
        self.refused(live, NoQuestion, live.answer, False)
        live.finish()
        live.answer(True)
        self.refused(live, NoQuestion, live.answer, True)
        self.refused(live, NoQuestion, live.forced)

    def test_unanswered(self):
        live = Live(ONE, OTHER)
        live.item()
        for work in (live.item, live.finish, live.tale):
            self.refused(live, Unanswered, work)
        live.answer(True)
        for work in (live.item, live.finish, live.tale):
            self.refused(live, Unanswered, work)
        live.answer(True)
        live.finish()
        # The end is begun and not done: an answer is wanted first.
        for work in (live.item, live.finish, live.tale):
            self.refused(live, Unanswered, work)

    def test_over(self):
        live = Live(OTHER, OTHER)
        live.finish()
        self.assertIs(live.is_over(), True)
        for work in (live.item, live.finish):
            self.refused(live, IsOver, work)
        self.assertIs(live.undo(), True)
        self.assertIs(live.is_over(), False)
        live.item()
        self.assertEqual(live.so_far(), [([], []), ([], [])])

    def test_impossible(self):
        live = Live(ONE, OTHER)
        live.item()
        live.answer(False)
        live.answer(True)
        error = self.refused(live, Impossible, live.answer, False)
        self.assertEqual((error.index, error.side, error.at), (1, 2, 0))
        live.answer(True)
        live.finish()
        error = self.refused(live, Impossible, live.answer, False)
        self.assertEqual((error.index, error.side, error.at), (2, 1, 0))
        one = loop([], [ask("p", ["item"]), ask("p", ["item"])])
        live = Live(one, loop())
        live.item()
        live.answer(True)
        error = self.refused(live, Impossible, live.answer, False)
        self.assertEqual((error.index, error.side, error.at), (1, 1, 1))
        self.assertEqual(live.so_far(), [([], []), ([True], [])])

    def test_refusals_keep_what_was_taken_back(self):
        live = Live(ONE, OTHER)
        live.item()
        live.answer(False)
        live.answer(True)
        live.undo()
        before = stand(live)
        self.refused(live, BadTruth, live.answer, 1)
        self.refused(live, Unanswered, live.item)
        self.assertEqual(stand(live), before)
        self.assertIs(live.again(), True)
        self.refused(live, Impossible, live.answer, False)
        self.assertIs(live.again(), False)


class BackTest(Case):
    def test_behind_each_kind_of_step(self):
        live = Live(ONE, OTHER)
        stands = [told(live)]
        self.assertEqual((live.undo(), live.again()), (False, False))
        for step in (live.item, lambda: live.answer(False), lambda: live.answer(True), lambda: live.answer(True), live.item,
                     lambda: live.answer(True), lambda: live.answer(True), live.finish, lambda: live.answer(True)):
            step()
            stands.append(told(live))
            self.assertIs(live.again(), False)
            self.assertIs(live.undo(), True)
            self.assertEqual(told(live), stands[-2])
            self.assertIs(live.again(), True)
            self.assertEqual(told(live), stands[-1])
        for before in stands[-2::-1]:
            self.assertIs(live.undo(), True)
            self.assertEqual(told(live), before)
        self.assertIs(live.undo(), False)
        for behind in stands[1:]:
            self.assertIs(live.again(), True)
            self.assertEqual(told(live), behind)
        self.assertIs(live.again(), False)

    def test_a_new_step_forgets_what_was_taken_back(self):
        live = Live(ONE, OTHER)
        live.item()
        live.answer(False)
        live.undo()
        live.undo()
        live.finish()
        self.assertEqual((live.again(), live.so_far()), (False, [([], []), ([], [])]))
        live.undo()
        live.item()
        live.answer(True)
        live.undo()
        live.answer(False)
        self.assertEqual((live.again(), live.so_far()), (False, [([], []), ([False], [])]))

    def test_drawn(self):
        chance = random.Random(61)
        for _ in range(120):
            one, other = drawn.pair(chance)
            live, done, undone = Live(one, other), [], []
            here = told(live)
            for _ in range(25):
                kind = chance.randrange(6)
                if kind == 0:
                    self.assertIs(live.undo(), bool(done))
                    if done:
                        undone.append(here)
                        here = done.pop()
                elif kind == 1:
                    self.assertIs(live.again(), bool(undone))
                    if undone:
                        done.append(here)
                        here = undone.pop()
                elif live.is_over() or len(live.so_far()) > 5:
                    continue
                else:
                    if live.question() is None:
                        (live.finish if chance.randrange(6) == 0 else live.item)()
                    else:
                        truth = chance.randrange(2) == 1
                        live.answer(truth if live.forced() is None else live.forced())
                    done.append(here)
                    undone, here = [], told(live)
                self.assertEqual(told(live), here)
            if live.question() is None:
                tale = Tale(one, other, live.so_far(), live.is_over())
                self.assertEqual(tale.groups(), live.tale().groups())


class TriedTest(Case):
    def test_a_value(self):
        live = Live(ONE, OTHER)
        live.item()
        live.answer(False)
        live.answer(True)
        live.undo()
        before = stand(live)
        seen = []

        def work(inner):
            seen.append(inner)
            inner.answer(False)
            inner.answer(False)
            inner.finish()
            return inner.so_far()

        self.assertEqual(live.tried(work), [([], []), ([False, False], [False]), ([], [])])
        self.assertIs(seen[0], live)
        self.assertEqual(stand(live), before)
        self.assertIs(live.again(), True)
        self.assertEqual(live.so_far(), [([], []), ([False, True], [])])

    def test_an_error(self):
        class Stop(BaseException):
            pass

        live = Live(ONE, OTHER)
        live.item()
        before = stand(live)

        def work(inner):
            inner.answer(True)
            raise Stop()

        with self.assertRaises(Stop):
            live.tried(work)
        self.assertEqual(stand(live), before)
        self.raised(Unanswered, live.tried, lambda inner: inner.item())
        self.assertEqual(stand(live), before)
        with self.assertRaises(TypeError):
            live.tried(None)
        self.assertEqual(stand(live), before)

    def test_one_within_another(self):
        live = Live(ONE, OTHER)
        live.item()

        def outer(run):
            run.answer(True)
            inside = stand(run)
            told_inside = run.tried(lambda inner: [inner.undo(), inner.undo(), inner.undo(), inner.finish(), inner.is_over()])
            self.assertEqual(stand(run), inside)
            run.answer(True)
            return told_inside, run.so_far()

        before = stand(live)
        self.assertEqual(live.tried(outer), ([True, True, False, None, False], [([], []), ([True], [True])]))
        self.assertEqual(stand(live), before)

    def test_taking_back_within(self):
        live = Live(OTHER, OTHER)
        live.item()
        live.answer(True)
        before = stand(live)
        live.tried(lambda inner: [inner.undo(), inner.answer(False), inner.answer(False), inner.item()])
        self.assertEqual(stand(live), before)
        self.assertEqual((live.undo(), live.undo(), live.undo()), (True, True, False))

    def test_both_ways(self):
        live = Live(ONE, OTHER)
        live.item()
        rows = [live.tried(lambda inner: [inner.answer(truth), inner.forced(), inner.so_far()][1:]) for truth in (False, True)]
        self.assertEqual(rows, [[None, [([], []), ([False], [])]], [None, [([], []), ([True], [])]]])


class CopyTest(Case):
    def test_stand_alone(self):
        live = Live(ONE, OTHER)
        live.item()
        live.answer(False)
        live.answer(True)
        live.undo()
        other = live.copy()
        self.assertIs(other.__class__, Live)
        self.assertIsNot(other, live)
        self.assertEqual(stand(other), stand(live))
        before = stand(live)
        other.answer(False)
        other.answer(False)
        other.item()
        self.assertEqual(stand(live), before)
        again = live.copy()
        self.assertIs(live.again(), True)
        live.answer(True)
        live.finish()
        self.assertEqual(stand(again), before)
        self.assertIs(again.again(), True)
        self.assertEqual(again.so_far(), [([], []), ([False, True], [])])
        self.assertEqual(other.so_far(), [([], []), ([False, False], [False]), ([], [])])

    def test_within_tried(self):
        live = Live(OTHER, OTHER)
        live.item()
        kept = live.tried(lambda inner: [inner.answer(True), inner.copy()][1])
        self.assertEqual((live.so_far(), kept.so_far()), ([([], []), ([], [])], [([], []), ([True], [])]))
        self.assertEqual((kept.undo(), kept.undo(), kept.undo()), (True, True, False))

    def test_what_is_told_is_new(self):
        live = Live(OTHER, OTHER)
        live.item()
        rows = live.so_far()
        self.assertEqual([row.__class__ for row in rows], [tuple, tuple])
        self.assertEqual([part.__class__ for row in rows for part in row], [list] * 4)
        rows[1][0].append(True)
        rows.clear()
        self.assertEqual(live.so_far(), [([], []), ([], [])])


if __name__ == "__main__":
    import unittest
    unittest.main()
