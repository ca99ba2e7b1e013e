"""Runs of loops in a world over very long lists, which are told in blocks that come many times."""

from unknowncalls.doing import Doing
from unknowncalls.errors import BadBlock, NoNumber
from unknowncalls.passes import Moves, Passes
from unknowncalls.words import as_below, as_integer, as_list


class Long:
    """A run of a loop, with results that are all 0."""

    def __init__(self, loop, world, blocks):
        doing = Doing(loop, world)
        self._lasting = loop.lasting()
        self._blocks = _read_blocks(world, blocks)
        self._moves = Moves(doing, world.size)
        _, begin, state = doing.section("start", None, None, [])
        self._begin = begin
        self._parts = []
        number = self._moves.number(state)
        for items, times in self._blocks:
            part = Passes(self._moves, items, times, number)
            self._parts.append(part)
            number = part.last
        self._state = self._moves.state(number)
        _, self._end, _ = doing.section("end", self._state, None, [])

    def length(self):
        """The number of items."""
        return sum([len(items) * times for items, times in self._blocks])

    def many(self):
        """The number of deeds that are done in all."""
        return len(self._begin) + sum([part.total for part in self._parts]) + len(self._end)

    def counts(self):
        """How often each deed is done, ascending by the deeds."""
        counts = {}
        for deed in self._begin + self._end:
            counts[deed] = counts.get(deed, 0) + 1
        for dones, visits in zip(self._moves.dones, self._visits()):
            for done, times in zip(dones, visits):
                for deed in done if times else ():
                    counts[deed] = counts.get(deed, 0) + times
        return {deed: counts[deed] for deed in sorted(counts)}

    def nth(self, n):
        """The n-th deed that is done, from 0, or None."""
        number = as_integer(n)
        if number is None or number < 0:
            raise NoNumber(n)
        if number < len(self._begin):
            return self._begin[number]
        number -= len(self._begin)
        for part in self._parts:
            if number < part.total:
                return part.nth(number)
            number -= part.total
        return self._end[number] if number < len(self._end) else None

    def held(self):
        """What the lasting registers hold ahead of the end."""
        return dict(zip(self._lasting, self._state[1]))

    def _visits(self):
        """For each item how often it is read in each state."""
        visits = [[0 for _ in row] for row in self._moves.behinds]
        for part in self._parts:
            part.visit(visits)
        return visits


def _read_blocks(world, blocks):
    """The pairs of a list of things and a number of times."""
    found = []
    for index, thing in enumerate(blocks):
        parts = as_list(thing)
        things = as_list(parts[0]) if parts is not None and len(parts) == 2 else None
        items = None if things is None else [as_below(part, world.size) for part in things]
        if items is None or None in items:
            raise BadBlock(index)
        times = as_integer(parts[1])
        if times is None or times < 1:
            raise BadBlock(index)
        found.append((items, times))
    return found
