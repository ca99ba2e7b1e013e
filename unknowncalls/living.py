"""Runs of two loops that are gone through step by step, and back again."""

from unknowncalls.errors import BadTruth, Impossible, IsOver, NoQuestion, Unanswered
from unknowncalls.runs import Pair
from unknowncalls.tales import Tale


class Live:
    """A run of two loops as far as it was told.

    What was done and what was taken back are chains: pairs of a stand and the chain ahead of it. A stand is
    a pair of a run, which is never gone on with itself, and what was told in the sections ahead of its own.
    """

    def __init__(self, one, other):
        run = Pair(one, other).first_run()
        run.begin("start")
        run.go()
        self._loops = (one, other)
        self._done = ((run, ()), None)
        self._undone = None

    def question(self):
        """The side, the place and the test of the next answer that is wanted, None if none is."""
        run = self._stand()
        step = run.wanted()
        if step is None:
            return None
        test = (step[3], *step[4]) if step[3] == "same" else ("ask", step[3], *step[4])
        return run.side + 1, step[1], test

    def answer(self, truth):
        """Gives the next answer."""
        if not isinstance(truth, bool):
            raise BadTruth(truth)
        run = self._asked().fork()
        index, side, at = run.index, run.side, len(run.told[run.side])
        run.answer(truth)
        if not run.known.is_possible:
            raise Impossible(index, side + 1, at)
        run.go()
        self._step(run, self._done[0][1])

    def item(self):
        """Begins a turn."""
        self._go_to("turn")

    def finish(self):
        """Begins the end."""
        self._go_to("end")

    def tale(self):
        """The tale of what was answered so far."""
        self._check_answered()
        one, other = self._loops
        return Tale(one, other, self.so_far(), self.is_over())

    def forced(self):
        """The truth value that alone can be answered, None if both can."""
        run = self._asked()
        truths = []
        for truth in (False, True):
            trial = run.fork()
            trial.answer(truth)
            if trial.known.is_possible:
                truths.append(truth)
        return truths[0] if len(truths) == 1 else None

    def undo(self):
        """Takes back the last step; tells whether there was one."""
        stand, before = self._done
        if before is None:
            return False
        self._done, self._undone = before, (stand, self._undone)
        return True

    def again(self):
        """Does what was taken back last; tells whether there was such a step."""
        if self._undone is None:
            return False
        stand, rest = self._undone
        self._done, self._undone = (stand, self._done), rest
        return True

    def tried(self, work):
        """Calls a function with this run, behind which all is as it was."""
        done, undone = self._done, self._undone
        try:
            return work(self)
        finally:
            self._done, self._undone = done, undone

    def copy(self):
        """Another one that stands as this one does."""
        other = Live(*self._loops)
        other._done = self._done
        other._undone = self._undone
        return other

    def so_far(self):
        """What both were answered in each section, also in the one that is not done."""
        run, told = self._done[0]
        return [(list(one), list(other)) for one, other in [*told, run.told]]

    def is_over(self):
        """Whether the end is done."""
        run = self._stand()
        return run.word == "end" and run.wanted() is None

    def _stand(self):
        return self._done[0][0]

    def _asked(self):
        """The run, if it has come to a question."""
        if self._stand().wanted() is None:
            raise NoQuestion()
        return self._stand()

    def _check_answered(self):
        if self._stand().wanted() is not None:
            raise Unanswered()

    def _go_to(self, word):
        self._check_answered()
        if self.is_over():
            raise IsOver()
        before, told = self._done[0]
        run = before.fork()
        run.begin(word)
        run.go()
        self._step(run, (*told, before.told))

    def _step(self, run, told):
        """Keeps a new step; what was taken back is forgotten."""
        self._done = ((run, told), self._done)
        self._undone = None
