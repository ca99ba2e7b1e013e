"""Endless runs of a loop alone: a way ahead, and a way around that comes back to the same picture."""

from unknowncalls.alone import watch_alone
from unknowncalls.errors import NoName
from unknowncalls.rounds import nearest_round
from unknowncalls.turns import Turns
from unknowncalls.words import as_text


def lasso(loop, deeds=()):
    """The answers ahead and around of an endless run that does these deeds but finitely often, else None."""
    words = [as_text(deed) for deed in deeds]
    for word, deed in zip(words, deeds):
        if word not in loop.names.deeds():
            raise NoName(deed)
    turns = TurnsWithout(words)
    watch_alone(loop, turns)
    around = nearest_round([list(outs) for outs in turns.outs], turns.depths)
    return None if around is None else turns.lasso(around)


class TurnsWithout(Turns):
    """The turns that do none of some deeds."""

    def __init__(self, deeds):
        Turns.__init__(self)
        self._deeds = deeds

    def worth(self, run):
        """The same for all turns that count."""
        return None if any([name in self._deeds for name, _ in run.done[0]]) else 0
