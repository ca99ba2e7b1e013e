"""Values of calls kept in new registers, so that they need not be reckoned again."""

from unknowncalls.alone import read_place
from unknowncalls.errors import NoConstant, NoPlace
from unknowncalls.fresh import free_names
from unknowncalls.loops import Loop
from unknowncalls.reading import placed
from unknowncalls.steps import SECTIONS, steps_of, way_of
from unknowncalls.walks import forgetting


def keeping(loop, place):
    """The loop in which the value of a call is kept in a new register."""
    at = read_place(loop, place)
    if at not in _call_places(loop):
        raise NoPlace(place)
    if not loop.names.constants:
        raise NoConstant()
    return _kept(loop, [at])


def remedy(one, other):
    """The first list of as few calls as can be, by keeping whose values neither forgets; None for more than two."""
    trials = Trials(one, other)
    if trials.reached([]) is None:
        return []
    if not one.names.constants:
        raise NoConstant()
    for call in trials.calls:
        if trials.is_worth([], call) and trials.reached([call]) is None:
            return [call]
    for at, call in enumerate(trials.calls):
        for later in trials.calls[at + 1:]:
            if trials.is_worth_both(call, later) and trials.reached([call, later]) is None:
                return [call, later]
    return None


class Trials:
    """Trials of keeping the values of calls, pairs of a side and a place.

    Where a run forgets though some values are kept, it forgets as well with a call kept that it
    does not come to: nothing is tried that is known by this.
    """

    def __init__(self, one, other):
        self.calls = [(side, place) for side, loop in ((1, one), (2, other)) for place in _call_places(loop)]
        self._loops = (one, other)
        self._steps = (steps_of(one), steps_of(other))
        self._known = {}

    def reached(self, calls):
        """The calls that a run comes to which forgets though the values of these calls are kept, None if none does."""
        key = tuple(calls)
        if key not in self._known:
            one, other = [_kept(loop, [place for side, place in calls if side == number])
                          for number, loop in ((1, self._loops[0]), (2, self._loops[1]))]
            told = forgetting(one, other)
            self._known[key] = None if told is None else self._come_to(told[1], told[2])
        return self._known[key]

    def is_worth(self, calls, call):
        """Whether a run that forgets with these calls kept comes to one more."""
        return call in self.reached(calls)

    def is_worth_both(self, call, other):
        """Whether no run that is known to forget is left as it is when both are kept."""
        if self.is_worth([], call):
            return self.is_worth([call], other) and (not self.is_worth([], other) or self.is_worth([other], call))
        return self.is_worth([], other) and self.is_worth([other], call)

    def _come_to(self, place, answers):
        """The calls that a run comes to, by its answers and the place at which it forgets."""
        found = {}
        for index, told in enumerate(answers):
            word = "turn" if index else "start"
            if index == len(answers) - 1:
                word = place[0]
            for side, truths in enumerate(told):
                for step in way_of(self._steps[side][word], truths):
                    if step[0] == "call":
                        found[(side + 1, step[1])] = True
        return found


def _call_places(loop):
    """The places of all calls, in their order."""
    pairs = [pair for word in SECTIONS for pair in placed((word,), loop.section(word))]
    return [place for place, statement in pairs if statement[0] == "call"]


def _kept(loop, places):
    """The loop in which the values of the calls at these places are kept."""
    names = free_names("k", loop.names, loop.registers(), len(places))
    targets = dict(zip(places, names))
    start, turn, end = [_with_keeps((word,), loop.section(word), targets) for word in SECTIONS]
    return Loop(loop.names, [("put", name, loop.names.constants[0]) for name in names] + start, turn, end)


def _with_keeps(place, statements, targets):
    """The statements, behind those at some places with a put into a register."""
    found = []
    for index, statement in enumerate(statements):
        at = place + (index,)
        if statement[0] == "if":
            then = _with_keeps(at + ("then",), statement[2], targets)
            found.append(("if", statement[1], then, _with_keeps(at + ("else",), statement[3], targets)))
        else:
            found.append(statement)
        if at in targets:
            found.append(("put", targets[at], statement[1]))
    return found
