"""The states of a machine put together where nothing tells them apart."""


def coarsest(outputs, moves):
    """For each state the number of its part: two are in one if they always give the same.

    outputs tells what each state gives by itself, moves the lists of the states behind it.
    """
    parts = Parts(len(outputs))
    for states in _listed(outputs).values():
        parts.split_off(states)
    befores = _befores(moves)
    ahead = list(range(parts.many_parts()))
    while ahead:
        states = parts.states(ahead.pop())
        for before in befores:
            hits = [source for state in states for source in before[state]]
            ahead.extend(parts.split_off(hits))
    return parts.part_of


def _listed(outputs):
    """The lists of the states that give the same."""
    lists = {}
    for state, output in enumerate(outputs):
        lists.setdefault(output, []).append(state)
    return lists


def _befores(moves):
    """For each letter the lists of the states ahead of each state."""
    befores = [[[] for _ in moves] for _ in moves[0]]
    for state, row in enumerate(moves):
        for letter, behind in enumerate(row):
            befores[letter][behind].append(state)
    return befores


class Parts:
    """Numbers in parts; those of each part stand side by side in one row.

    A part is split in a time that only those who are hit cost: what was hit is brought to its
    beginning, and the lesser half gets the new number.
    """

    def __init__(self, size):
        self.part_of = [0] * size
        self._row = list(range(size))
        self._spots = list(range(size))
        self._firsts = [0]
        self._ends = [size]
        self._hits = [0]

    def many_parts(self):
        """The number of parts."""
        return len(self._firsts)

    def states(self, part):
        """A new list of what is in a part."""
        return self._row[self._firsts[part]:self._ends[part]]

    def split_off(self, states):
        """Splits all parts of which some are among these, each told once, and some are not; returns the new ones."""
        parts = {}
        for state in states:
            part = self.part_of[state]
            parts[part] = True
            self._hit(state, part)
        news = [self._split(part) for part in parts]
        return [part for part in news if part is not None]

    def _hit(self, state, part):
        """Brings a state to the beginning of its part, behind the others that were hit."""
        to, spot = self._firsts[part] + self._hits[part], self._spots[state]
        other = self._row[to]
        self._row[to], self._row[spot] = state, other
        self._spots[state], self._spots[other] = to, spot
        self._hits[part] += 1

    def _split(self, part):
        """Gives the lesser half of a part a new number, None if all were hit."""
        first, end = self._firsts[part], self._ends[part]
        middle = first + self._hits[part]
        self._hits[part] = 0
        if middle == end:
            return None
        new = self.many_parts()
        if middle - first <= end - middle:
            self._firsts.append(first)
            self._ends.append(middle)
            self._firsts[part] = middle
        else:
            self._firsts.append(middle)
            self._ends.append(end)
            self._ends[part] = middle
        self._hits.append(0)
        for state in self.states(new):
            self.part_of[state] = new
        return new
