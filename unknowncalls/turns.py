"""The pictures of a loop alone in which it has not left, and the turns from one to the other."""

from unknowncalls.alone import Watch


class Turns(Watch):
    """The pictures, numbered as runs come to them: those with fewer turns ahead first.

    outs has for each picture a dict from the pictures behind a turn to a pair: the worth of the
    turn that is worth the most, and its answers. depths has for each the least number of turns ahead.
    """

    def __init__(self):
        self.outs = []
        self.depths = []
        self._numbers = {}
        self._befores = []

    def worth(self, run):
        """What a turn is worth, None if it does not count; here all count the same."""
        return 0

    def passed(self, way, run, behind):
        """Keeps a turn, or the start, behind which the loop has not left."""
        if run.lefts[0]:
            return
        before = self._numbers.get(way)
        if behind not in self._numbers:
            self._numbers[behind] = len(self.outs)
            self._befores.append((before, run.told[0]))
            self.depths.append(0 if before is None else self.depths[before] + 1)
            self.outs.append({})
        worth = None if before is None else self.worth(run)
        if worth is not None:
            outs, number = self.outs[before], self._numbers[behind]
            if number not in outs or outs[number][0] < worth:
                outs[number] = (worth, run.told[0])

    def lasso(self, around):
        """The answers on the way to the first of these pictures, and those on the way around through all."""
        ahead, number = [], around[0]
        while number is not None:
            number, truths = self._befores[number]
            ahead.append(list(truths))
        turns = [self.outs[one][other][1] for one, other in zip(around, [*around[1:], around[0]])]
        return ahead[::-1], [list(truths) for truths in turns]
