"""What is so at the places of a loop alone, in all its runs, and the loop without what is needless."""

from unknowncalls.alone import read_place, watch_alone
from unknowncalls.errors import NoTest
from unknowncalls.loops import Loop
from unknowncalls.steps import SECTIONS
from unknowncalls.watches import EqualWatch, OrderWatch, PlaceWatch, UnlikeWatch
from unknowncalls.words import as_text


def nothing(names):
    """The loop that does nothing."""
    return Loop(names, [], [], [])


def never(loop):
    """The places to which no run comes."""
    watch = _watched(loop)
    return [place for place in loop.places() if place not in watch.is_come_to]


def sure(loop, place):
    """The tuples of sources that are equal whenever a run comes to a place, None if none comes."""
    at = read_place(loop, place)
    sources = loop.sources(at)
    watch = EqualWatch(at, sources)
    watch_alone(loop, watch)
    if watch.numbers is None:
        return None
    groups = {}
    for source, number in zip(sources, watch.numbers):
        groups.setdefault(number, []).append(source)
    return [tuple(group) for group in groups.values() if len(group) > 1]


def needless(loop):
    """The calls whose value is always that of one source already: to the first such one."""
    return _needless(loop, _watched(loop))


def settled(loop):
    """The ifs whose test is always answered alike: to this answer."""
    return _settled(loop, _watched(loop))


def mended(loop):
    """The loop without calls that are needless, ifs that are settled, and what no run comes to."""
    before = None
    while before is None or not before == loop:
        before = loop
        watch = _watched(loop)
        mending = Mending(watch.is_come_to, _needless(loop, watch), _settled(loop, watch))
        start, turn, end = [mending.mended((word,), loop.section(word)) for word in SECTIONS]
        loop = Loop(loop.names, start, turn, end)
    return loop


def never_equal(loop, place):
    """The pairs of sources that cannot be equal whenever a run comes to a place, None if none comes."""
    at = read_place(loop, place)
    watch = UnlikeWatch(at, loop.sources(at))
    watch_alone(loop, watch)
    return watch.pairs


def order_at(loop, place, test):
    """The sources that are never behind others whenever a run comes to a place, None if none comes."""
    if loop.names.rules().get(as_text(test)) != "order":
        raise NoTest(test)
    at = read_place(loop, place)
    watch = OrderWatch(at, loop.sources(at))
    watch_alone(loop, watch)
    return watch.triples


class Mending:
    """What is to be exchanged or left out in a loop."""

    def __init__(self, is_come_to, needless_calls, settled_ifs):
        self._is_come_to = is_come_to
        self._needless = needless_calls
        self._settled = settled_ifs

    def mended(self, place, statements):
        """The statements as they are to be."""
        found = []
        for index, statement in enumerate(statements):
            at = place + (index,)
            if at in self._is_come_to:
                found.extend(self._mended_one(at, statement))
        return found

    def _mended_one(self, at, statement):
        if at in self._needless:
            return [("put", statement[1], self._needless[at])]
        if statement[0] != "if":
            return [statement]
        then, other = self.mended(at + ("then",), statement[2]), self.mended(at + ("else",), statement[3])
        if at in self._settled:
            return then if self._settled[at] else other
        return [("if", statement[1], then, other)]


def _watched(loop):
    """What is so at all places, from all runs of a loop."""
    watch = PlaceWatch(loop)
    watch_alone(loop, watch)
    return watch


def _needless(loop, watch):
    rows = [(place, watch.holding.get(place, [])) for place in loop.places()]
    return {place: sources[0] for place, sources in rows if sources}


def _settled(loop, watch):
    rows = [(place, list(watch.answers.get(place, {}))) for place in loop.places()]
    return {place: truths[0] for place, truths in rows if len(truths) == 1}
