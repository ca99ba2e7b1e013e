"""Which calls are worth a trial, where it is asked by keeping whose values two loops do not forget.

A run forgets at a call because the value of this call is gone. With one more value kept, all that is
known without it is known still: so this helps the run only if it is the very value that is gone. (It
need not be held until then: if it goes later, nothing may hang on it by then, and the call goes, too.)
Where a run forgets at an answer, any call that it comes to ahead of this section may help.
"""

from unknowncalls.alone import Watch
from unknowncalls.pictures import picture_behind, run_from
from unknowncalls.walking import Walk


class Trials:
    """Trials of keeping the values of calls, pairs of a side and a place.

    Runs that forget are told as a side, a place and answers. Each is kept with the calls that can help it.
    """

    def __init__(self, pair):
        self._pair = pair
        self._helpers = {}
        self._told = []

    def is_enough(self, calls):
        """Whether no run forgets if the values of these calls are kept."""
        self._pair.keep(calls)
        told = self._forgotten_again(calls)
        if told is None:
            walk = Walk(self._pair)
            walk.find_forgotten()
            told = walk.forgotten
        if told is not None:
            self._helpers[tuple(calls)] = self._helpers_of(told)
        return told is None

    def is_worth(self, calls, call):
        """Whether one more call can help the run that is known to forget with these calls kept."""
        return call in self._helpers[tuple(calls)]

    def is_worth_both(self, call, other):
        """Whether two calls can help all runs that are known to forget with none or with one of them kept."""
        if self.is_worth([], call):
            return self.is_worth([call], other) and (not self.is_worth([], other) or self.is_worth([other], call))
        return self.is_worth([], other) and self.is_worth([other], call)

    def _forgotten_again(self, calls):
        """A run that was told before and forgets with these calls kept, too, None if there is none."""
        # To go through one run again is less than to look for one among all runs.
        for told, helpers in self._told:
            if not any([call in helpers for call in calls]):
                again = self._gone_again(told)
                if again is not None:
                    return again
        return None

    def _gone_again(self, told):
        """A run with these answers as far as it goes with the calls that are kept now, None if it does not forget."""
        run = self._pair.first_run()
        for index, (word, truths) in enumerate(_sections(told)):
            if index:
                run = run_from(self._pair, picture_behind(run))
            run.begin(word)
            _follow(run, truths)
            if run.forgot is not None:
                return run.side + 1, run.forgot, told[2][:index] + [run.told]
        return None

    def _helpers_of(self, told):
        """The calls that can help a run, as the keys of a dict."""
        for known, helpers in self._told:
            if known == told:
                return helpers
        watch = CallWatch()
        run = self._pair.first_run()
        run.watch = watch
        for word, truths in _sections(told):
            run.begin(word)
            _follow(run, truths)
        helpers = watch.helpers(run.known, told)
        self._told.append((told, helpers))
        return helpers


class CallWatch(Watch):
    """The calls that a run comes to in which nothing is let go."""

    def __init__(self):
        self._calls = []

    def come(self, run, step):
        """Keeps a call, with the number of its section, its name and its values."""
        if step[0] == "call":
            values = [run.envs[run.side][source] for source in step[4]]
            self._calls.append((run.index, (run.side + 1, step[1]), step[3], values))

    def helpers(self, known, told):
        """The calls that can help the run where it forgets, by all that is known there."""
        side, place, answers = told
        last = len(answers) - 1
        rows = [(index, call, known.leads[known.calls[known.key(name, values)]])
                for index, call, name, values in self._calls]
        # Where it forgets at an answer, this is empty.
        gone = [lead for index, call, lead in rows if index == last and call == (side, place)]
        return {call: True for index, call, lead in rows if index < last and (not gone or lead == gone[0])}


def _sections(told):
    """The words of the sections of a run, each with what both loops are answered in it."""
    _, place, answers = told
    words = ["turn" if index else "start" for index in range(len(answers) - 1)]
    return list(zip([*words, place[0]], answers))


def _follow(run, truths):
    """Goes through a section by these answers, as far as they go, and up to one that is impossible."""
    while run.known.is_possible and run.go() and len(run.told[run.side]) < len(truths[run.side]):
        run.answer(truths[run.side][len(run.told[run.side])])
