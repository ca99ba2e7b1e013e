"""Watches of a loop alone: what is so whenever a run comes to a place."""

from unknowncalls.alone import Watch
from unknowncalls.trials import impossible_pairs


class EqualWatch(Watch):
    """Which sources are equal whenever a run comes to a place.

    numbers are those of the groups that the sources are in, None if no run came there.
    """

    def __init__(self, place, sources):
        self.numbers = None
        self._place = place
        self._choices = sources

    def come(self, run, step):
        """Parts the sources that are not equal here."""
        if step[1] == self._place:
            env, leads = run.envs[run.side], run.known.leads
            rows = [leads[env[source]] for source in self._choices]
            found = {}
            before = rows if self.numbers is None else self.numbers
            self.numbers = [found.setdefault(row, len(found)) for row in zip(before, rows)]


class UnlikeWatch(Watch):
    """Which pairs of sources cannot be equal whenever a run comes to a place; None if no run came there."""

    def __init__(self, place, sources):
        self.pairs = None
        self._place = place
        self._choices = sources
        self._all = [(one, other) for at, one in enumerate(sources) for other in sources[at + 1:]]

    def come(self, run, step):
        """Leaves out the pairs that can be equal here."""
        if step[1] == self._place:
            known, env = run.known, run.envs[run.side]
            leads = {source: known.leads[env[source]] for source in self._choices}
            found = {pair: True for pair in impossible_pairs(known, {lead: True for lead in leads.values()})}
            before = self._all if self.pairs is None else self.pairs
            self.pairs = [pair for pair in before if _are_unlike(known, found, [leads[source] for source in pair])]


class OrderWatch(Watch):
    """Which sources are not behind others whenever a run comes to a place, and which of them are ahead.

    triples are those of two sources and a truth value, None if no run came there.
    """

    def __init__(self, place, sources):
        self.triples = None
        self._place = place
        self._all = [(one, other, True) for one in sources for other in sources if one != other]

    def come(self, run, step):
        """Leaves out what is not known here."""
        if step[1] == self._place:
            rows = []
            for one, other, is_over in self._all if self.triples is None else self.triples:
                low, high = [run.known.leads[run.envs[run.side][source]] for source in (one, other)]
                if low == high or run.known.ups[low] >> high & 1:
                    rows.append((one, other, is_over and run.known.overs[low] >> high & 1 == 1))
            self.triples = rows


class PlaceWatch(Watch):
    """What is so at all places.

    answers tells those at the ifs that runs come to, holding, for the calls that runs come to, the
    sources that hold their value already whenever one does.
    """

    def __init__(self, loop):
        self.is_come_to = {}
        self.answers = {}
        self.holding = {}
        self._loop = loop

    def come(self, run, step):
        """Keeps that a run comes here, and of a call which sources hold its value."""
        word, place = step[0], step[1]
        self.is_come_to[place] = True
        if word == "call" and self.holding.get(place) != []:
            before = self.holding[place] if place in self.holding else self._loop.sources(place)
            known, env = run.known, run.envs[run.side]
            result = known.calls.get(known.key(step[3], [env[source] for source in step[4]]))
            lead = None if result is None else known.lead_of(result)
            self.holding[place] = [source for source in before if known.leads[env[source]] == lead]

    def answered(self, place, truths):
        """Keeps the answers that are not impossible."""
        for truth in truths:
            self.answers.setdefault(place, {})[truth] = True


def _are_unlike(known, found, leads):
    """Whether two leaders are known unlike, or are a pair that was found impossible."""
    low, high = sorted(leads)
    return known.unlikes[low] >> high & 1 == 1 or (low, high) in found
