"""Ways around in a graph whose steps have costs: the greatest mean cost of a step around.

A graph is told as a list: for each number a dict from those behind it to the cost of the step.
"""

from math import gcd


def dearest_round(outs, firsts):
    """The greatest mean of all ways around, above by below, the surplus, and the numbers on such a way; else None.

    Each way around that is dearer than the mean so far gives the next one.
    """
    least = min([cost for behind in outs for cost in behind.values()], default=0)
    above, below, found = least - 1, 1, None
    while True:
        ways = Ways(outs, firsts, above, below)
        if ways.around is None:
            return None if found is None else (above, below, max([0, *ways.sums]), found)
        found = ways.around
        total = sum([outs[one][other] for one, other in zip(found, [*found[1:], found[0]])])
        part = gcd(total, len(found))
        above, below = total // part, len(found) // part


class Ways:
    """The dearest ways from the first ones to all numbers, by what steps cost above a mean, times below.

    sums are the costs of these ways, around a way around that is dearer than the mean, else None. The
    ways are a tree: where a dearer way to a number is found, all that hangs on it is cut off, until the
    new way comes there, too; a way that comes back to what hangs on its own end goes around.
    """

    def __init__(self, outs, firsts, above, below):
        self.sums = [None for _ in outs]
        self.around = None
        self._steps = [[(other, below * cost - above) for other, cost in behind.items()] for behind in outs]
        self._befores = [None for _ in outs]
        self._hanging = [{} for _ in outs]
        self._is_waiting = [False for _ in outs]
        for number in firsts:
            self.sums[number] = 0
            self._is_waiting[number] = True
        ahead = list(firsts)
        while ahead:
            news = []
            for number in ahead:
                if self._is_waiting[number] and self.around is None:
                    self._go_on(number, news)
            ahead = news

    def _go_on(self, number, news):
        """Finds dearer ways by a step from a number."""
        self._is_waiting[number] = False
        total = self.sums[number]
        for other, cost in self._steps[number]:
            before = self.sums[other]
            if before is None or total + cost > before:
                if not self._cut(other, number):
                    self.around = self._way(other, number)
                    return
                self._hang(other, number)
                self.sums[other] = total + cost
                if not self._is_waiting[other]:
                    self._is_waiting[other] = True
                    news.append(other)

    def _cut(self, number, end):
        """Cuts off all that hangs on a number; False if the end does, or is the number itself."""
        ahead = [number]
        while ahead:
            one = ahead.pop()
            if one == end:
                return False
            for other in self._hanging[one]:
                self._is_waiting[other] = False
                ahead.append(other)
            self._hanging[one] = {}
        return True

    def _hang(self, number, before):
        """Hangs a number on another one, and no longer on the one ahead of it."""
        if self._befores[number] is not None:
            self._hanging[self._befores[number]].pop(number, None)
        self._befores[number] = before
        self._hanging[before][number] = True

    def _way(self, first, last):
        """The numbers on the way from one to the other."""
        way = [last]
        while way[-1] != first:
            way.append(self._befores[way[-1]])
        return way[::-1]
