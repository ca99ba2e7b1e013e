"""Passes of a loop through a block of items again and again: they go around as soon as a state comes again."""


class Moves:
    """The states that a loop comes to, numbered; each turn from a state with an item is done once.

    For each item there are lists with what is so of a turn from each state: behinds has the number of the
    state behind it, -1 where none was done, deed_counts tells how many deeds it does, dones has these deeds.
    """

    def __init__(self, doing, size):
        self.behinds = [[] for _ in range(size)]
        self.deed_counts = [[] for _ in range(size)]
        self.dones = [[] for _ in range(size)]
        self._doing = doing
        self._states = []
        self._numbers = {}
        self._known = {}
        self._through = {}

    def number(self, state):
        """The number of a state."""
        if state not in self._numbers:
            self._numbers[state] = len(self._states)
            self._states.append(state)
            for item in range(len(self.behinds)):
                self.behinds[item].append(-1)
                self.deed_counts[item].append(0)
                self.dones[item].append(())
        return self._numbers[state]

    def state(self, number):
        """The state with a number."""
        return self._states[number]

    def through(self, number, items):
        """The number of the state behind a row of items, and how many deeds are done on the way."""
        known = self._through.setdefault(items, {})
        if number not in known:
            state, many, behinds, counts = number, 0, self.behinds, self.deed_counts
            for item in items:
                behind = behinds[item][state]
                if behind < 0:
                    behind = self._turn(state, item)
                many += counts[item][state]
                state = behind
            known[number] = (state, many)
        return known[number]

    def _turn(self, number, item):
        """Does a turn for the first time; just the same was done if what matters there is the same.

        Returns the number of the state behind.
        """
        state = self._states[number]
        view = (self._doing.view("turn", state), item)
        if view not in self._known:
            _, done, behind = self._doing.section("turn", state, item, [])
            self._known[view] = (self.number(behind), tuple(done))
        behind, done = self._known[view]
        self.behinds[item][number] = behind
        self.deed_counts[item][number] = len(done)
        self.dones[item][number] = done
        return behind


class Passes:
    """The passes of a loop through the items of a block, from a state on.

    starts are the states ahead of passes, each once, counts the numbers of deeds done ahead of each, and
    behind all. If a state comes again, it goes around from there, as often as there are passes.
    """

    def __init__(self, moves, items, times, first):
        self._moves = moves
        self._items = tuple(items)
        self._starts = []
        self._counts = [0]
        spots, state = {}, first
        while len(self._starts) < times and state not in spots:
            spots[state] = len(self._starts)
            self._starts.append(state)
            state, many = moves.through(state, self._items)
            self._counts.append(self._counts[-1] + many)
        # Where no state has come again no pass is left.
        self._spot = spots.get(state, 0)
        self._rounds, self._rest = divmod(times - len(self._starts), len(self._starts) - self._spot)
        end = self._spot + self._rest
        self.last = state if times == len(self._starts) else self._starts[end]
        self.total = self._counts[-1] + self._rounds * self._around() + self._counts[end] - self._counts[self._spot]

    def nth(self, number):
        """The deed with a number, from 0 and below the total."""
        if number >= self._counts[-1]:
            number = self._counts[self._spot] + (number - self._counts[self._spot]) % self._around()
        low, high = 0, len(self._starts)
        while high - low > 1:
            middle = (low + high) // 2
            if self._counts[middle] <= number:
                low = middle
            else:
                high = middle
        number -= self._counts[low]
        state = self._starts[low]
        for item in self._items:
            done = self._moves.dones[item][state]
            if number < len(done):
                return done[number]
            number -= len(done)
            state = self._moves.behinds[item][state]
        return None

    def visit(self, visits):
        """Adds how often each item is read in each state, to lists like those of the moves."""
        behinds = self._moves.behinds
        for index, start in enumerate(self._starts):
            times, state = 1, start
            if index >= self._spot:
                times += self._rounds + (1 if index - self._spot < self._rest else 0)
            for item in self._items:
                visits[item][state] += times
                state = behinds[item][state]

    def _around(self):
        """How many deeds are done on the way around."""
        return self._counts[-1] - self._counts[self._spot]
