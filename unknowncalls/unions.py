"""Which of some keys are held for the same already, by pairs that were told."""


class Unions:
    """Each key stands alone until it is told to be the same as another one."""

    def __init__(self):
        self._parents = {}

    def unite(self, key, other):
        """Two keys are the same; tells whether that is new."""
        one, two = self._root(key), self._root(other)
        self._parents[two] = one
        return one != two

    def _root(self, key):
        parents = self._parents
        parents.setdefault(key, key)
        while parents[key] != key:
            parents[key] = parents[parents[key]]
            key = parents[key]
        return key
