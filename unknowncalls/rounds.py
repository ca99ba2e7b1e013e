"""Ways around in a graph, as short as can be."""


def nearest_round(outs, depths):
    """The numbers on a way around that is, with the depth of its first one, as short as there is, else None.

    outs are the lists of those behind each one; those with lesser depths have lesser numbers.
    """
    graph = Graph(outs)
    found, total = None, None
    for number, depth in enumerate(depths):
        if found is not None and depth + 1 >= total:
            break
        around = graph.nearest(number, None if found is None else total - depth)
        if around is not None:
            found, total = around, depth + len(around)
        # A way around through this one that begins elsewhere would not be nearer.
        graph.drop(number)
    return found


class Graph:
    """What is left of a graph when those that no way around goes through are dropped."""

    def __init__(self, outs):
        self._outs = outs
        self._ins = [[] for _ in outs]
        for number, behind in enumerate(outs):
            for other in behind:
                self._ins[other].append(number)
        self._many_outs = [len(behind) for behind in outs]
        self._many_ins = [len(ahead) for ahead in self._ins]
        self._is_left = [True for _ in outs]
        for number in range(len(outs)):
            if self._many_outs[number] == 0 or self._many_ins[number] == 0:
                self.drop(number)

    def drop(self, number):
        """Drops one, and all that no way around can go through any more."""
        ahead = [number]
        while ahead:
            one = ahead.pop()
            if self._is_left[one]:
                self._is_left[one] = False
                ahead.extend(_less(self._many_ins, self._outs[one]))
                ahead.extend(_less(self._many_outs, self._ins[one]))

    def nearest(self, number, end):
        """The shortest way from one back to it, of less steps than an end; None if there is none."""
        if not self._is_left[number]:
            return None
        befores, ahead, many = {}, [number], 1
        while ahead and (end is None or many < end):
            news = []
            for one in ahead:
                for other in self._outs[one]:
                    if other == number:
                        return _way_back(befores, number, one)
                    if self._is_left[other] and other not in befores:
                        befores[other] = one
                        news.append(other)
            ahead, many = news, many + 1
        return None


def _less(counts, numbers):
    """Counts one less for each of these; returns those of which none is left."""
    found = []
    for number in numbers:
        counts[number] -= 1
        if counts[number] == 0:
            found.append(number)
    return found


def _way_back(befores, first, last):
    """The numbers from the first one to the last one."""
    way = [last]
    while way[-1] != first:
        way.append(befores[way[-1]])
    return way[::-1]
