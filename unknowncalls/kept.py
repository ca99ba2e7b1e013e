"""Pairs of loops that keep the values of some calls, each in a new register."""

from unknowncalls.runs import Pair
from unknowncalls.steps import SECTIONS


class KeptPair(Pair):
    """A pair of which it can be told again and again which calls are kept: at first there are none."""

    def __init__(self, one, other):
        Pair.__init__(self, one, other)
        self._plain = (self.steps, self.lastings)

    def keep(self, calls):
        """From now on the values of just these calls are kept, pairs of a side and a place."""
        # A register with a digit for its name is none of the loops.
        keeps = ({}, {})
        for number, (side, place) in enumerate(calls):
            keeps[side - 1][place] = str(number)
        steps, lastings = self._plain
        self.steps = tuple([self._kept_steps(*row) for row in zip(steps, keeps)])
        self.lastings = tuple([list(kept.values()) + lasting for kept, lasting in zip(keeps, lastings)])

    def _kept_steps(self, steps, keeps):
        if not keeps:
            return steps
        found = {word: _with_keeps(steps[word], keeps) for word in SECTIONS}
        puts = [_put(place, name, self.constants[0]) for place, name in keeps.items()]
        found["start"] = (*puts, *found["start"])
        return found


def _with_keeps(steps, keeps):
    """The steps, behind those at some places with a put into a register."""
    found = []
    for step in steps:
        if step[0] == "if":
            found.append((*step[:5], _with_keeps(step[5], keeps), _with_keeps(step[6], keeps)))
        else:
            found.append(step)
        if step[1] in keeps:
            found.append(_put(step[1], keeps[step[1]], step[2]))
    return tuple(found)


def _put(place, target, source):
    return ("put", place, target, None, (source,), (), ())
