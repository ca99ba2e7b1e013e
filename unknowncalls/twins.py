"""Two loops in one world, run over the same items and with the same results."""

from unknowncalls.unions import Unions


class Twins:
    """Two loops that are gone through together, pair of states by pair of states."""

    def __init__(self, one, other, size):
        self._both = (one, other)
        self._size = size
        self._unions = Unions()
        self._seen = {}

    def parting(self):
        """Items, as few as there can be, and results over which both do unlike deeds, else None."""
        ahead, found = self._behind([((None, None), [], [])], "start", None)
        while found is None and ahead:
            _, found = self._behind(ahead, "end", None)
            if found is None:
                ahead, found = self._turned(ahead)
        return found

    def _turned(self, ahead):
        """What is behind a turn, by each thing as its item."""
        behind = []
        for entry in ahead:
            for item in range(self._size):
                news, found = self._behind([entry], "turn", item)
                if found is not None:
                    return [], found
                behind.extend(news)
        return behind, None

    def _behind(self, ahead, word, item):
        """The new pairs of states behind a section, with the items and results; or what parts in it."""
        behind = []
        for states, items, results in ahead:
            if self._is_seen(word, states, item):
                continue
            for given, done, pair in self._done_by_both(word, states, item):
                read = items + [item] if word == "turn" else items
                told = results + [given]
                if done[0] != done[1]:
                    return [], (read, told if word == "end" else told + [[]])
                if word != "end" and self._unions.unite((1, pair[0]), (2, pair[1])):
                    behind.append((pair, read, told))
        return behind, None

    def _is_seen(self, word, states, item):
        """Whether just the same was done in a section before, from states that are alike in what matters there."""
        views = [doing.view(word, state) for doing, state in zip(self._both, states)]
        key = (word, item, views[0], views[1])
        is_seen = key in self._seen
        self._seen[key] = True
        return is_seen

    def _done_by_both(self, word, states, item):
        """What both do in a section, and the states behind it, with all results that either takes."""
        found = []
        ahead = [{}]
        while ahead:
            known = ahead.pop()
            given = [known.get(number, 0) for number in range(max([-1, *known]) + 1)]
            sections = [doing.section(word, state, item, given) for doing, state in zip(self._both, states)]
            wanted = [number for doing, section in zip(self._both, sections)
                      for number in doing.taken(section[0]) if number not in known]
            if wanted:
                ahead.extend([{**known, min(wanted): thing} for thing in range(self._size)])
            else:
                found.append((given, [section[1] for section in sections], tuple([section[2] for section in sections])))
        return found
