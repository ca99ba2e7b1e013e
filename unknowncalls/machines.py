"""Loops in one world: whether two do the same deeds there, and the least machine of one.

Two states that are to be compared are told as the same from then on: what a pair would show that
follows from such ones, another pair shows that is not farther away.
"""

from unknowncalls.doing import Doing
from unknowncalls.errors import BadMachine
from unknowncalls.partition import coarsest
from unknowncalls.twins import Twins
from unknowncalls.unions import Unions


def parting_in(world, one, other):
    """Items and results over which both do unlike deeds in this world, None if there are none."""
    return Twins(Doing(one, world), Doing(other, world), world.size).parting()


class Machine:
    """The least machine of a loop in a world, where all results are 0."""

    def __init__(self, loop, world):
        doing = Doing(loop, world)
        _, done, state = doing.section("start", None, None, [])
        self._size = world.size
        self._begin = tuple(done)
        ends, turns, moves = _explored(doing, state, world.size)
        self._states = _least(ends, turns, moves)

    def begin(self):
        """A new list of the deeds of the start."""
        return list(self._begin)

    def rows(self):
        """A new list of the states: the deeds of the end, and for each item those of the turn and what is behind."""
        return [(list(ends), [(list(done), number) for done, number in moves]) for ends, moves in self._states]

    def parting(self, other):
        """The first list of items, shorter ones first, over which both do unlike deeds, None if there is none."""
        if not isinstance(other, Machine) or self._size != other._size:
            raise BadMachine(other)
        if self._begin != other._begin or self._states[0][0] != other._states[0][0]:
            return []
        unions = Unions()
        unions.unite((1, 0), (2, 0))
        ahead = [(0, 0, [])]
        while ahead:
            behind = []
            for one, two, items in ahead:
                for item, (done, state) in enumerate(self._states[one][1]):
                    deeds, number = other._states[two][1][item]
                    if done != deeds or self._states[state][0] != other._states[number][0]:
                        return items + [item]
                    if unions.unite((1, state), (2, number)):
                        behind.append((state, number, items + [item]))
            ahead = behind
        return None

    def __len__(self):
        return len(self._states)

    def __eq__(self, other):
        return isinstance(other, Machine) and self._begin == other._begin and self._states == other._states


def _explored(doing, first, size):
    """For all states that are come to: the deeds of their ends, those of their turns, and the states behind."""
    numbers, states, known = {first: 0}, [first], {}
    ends, turns, moves = [], [], []
    while len(ends) < len(states):
        state = states[len(ends)]
        ends.append(_done(doing, known, "end", state, None)[0])
        steps = [_done(doing, known, "turn", state, item) for item in range(size)]
        turns.append(tuple([done for done, _ in steps]))
        for _, behind in steps:
            if behind not in numbers:
                numbers[behind] = len(states)
                states.append(behind)
        moves.append([numbers[behind] for _, behind in steps])
    return ends, turns, moves


def _done(doing, known, word, state, item):
    """The deeds of a section, and the state behind it; what is known of it once is not done again."""
    key = (word, item, doing.view(word, state))
    if key not in known:
        _, done, behind = doing.section(word, state, item, [])
        known[key] = (tuple(done), behind)
    return known[key]


def _least(ends, turns, moves):
    """The states of the least machine, numbered in the order in which they are first named."""
    parts = coarsest(list(zip(ends, turns)), moves)
    numbers, firsts, found = {parts[0]: 0}, [0], []
    while len(found) < len(firsts):
        state = firsts[len(found)]
        for behind in moves[state]:
            if parts[behind] not in numbers:
                numbers[parts[behind]] = len(firsts)
                firsts.append(behind)
        row = [(done, numbers[parts[behind]]) for done, behind in zip(turns[state], moves[state])]
        found.append((ends[state], tuple(row)))
    return found
