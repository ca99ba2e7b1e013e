"""What is known of values that are numbered from 0, and what follows from it.

Each group of equal values is led by the least of them. A call, or a question, is known by
its key: its name and the leaders of its values. Many leaders are told by the bits of one
integer.
"""

GONE = -1
EITHER_WAY = ("swaps", "both")


class Known:
    """What is known: of a call the result, which can be gone, of a question the answer."""

    def __init__(self, told_rules, total=0):
        self.told_rules = told_rules
        self.leads = list(range(total))
        self.marks = [0] * total
        self.unlikes = [0] * total
        self.ups = [0] * total
        self.overs = [0] * total
        self.calls = {}
        self.said = {}
        self.shares = []
        self.squeezed = []
        self.is_ordered = False
        self.is_possible = True
        self.is_noted = False

    def fork(self):
        """The same once more, so that one can become known apart from the other."""
        other = Known(self.told_rules)
        other.leads = list(self.leads)
        other.marks = list(self.marks)
        other.unlikes = list(self.unlikes)
        other.ups = list(self.ups)
        other.overs = list(self.overs)
        other.calls = {key: self.calls[key] for key in self.calls}
        other.said = {key: self.said[key] for key in self.said}
        other.shares = self.shares
        other.squeezed = self.squeezed
        other.is_ordered = self.is_ordered
        other.is_possible = self.is_possible
        other.is_noted = self.is_noted
        return other

    def fresh(self):
        """The number of a new value."""
        self.leads.append(len(self.leads))
        self.marks.append(0)
        self.unlikes.append(0)
        self.ups.append(0)
        self.overs.append(0)
        return len(self.leads) - 1

    def leaders(self):
        """The leaders of all groups, ascending."""
        return [value for value, lead in enumerate(self.leads) if value == lead]

    def lead_of(self, result):
        """The leader of a result; a gone one has none."""
        return GONE if result == GONE else self.leads[result]

    def share_rows(self):
        """The shares as lists of pairs of leaders."""
        return [[(self.leads[value], self.lead_of(result)) for value, result in share] for share in self.shares]

    def key(self, name, values):
        """Equal for just those calls, or questions, that are the same."""
        one, other = self.leads[values[0]], self.leads[values[-1]]
        if len(values) == 1:
            return (name, one)
        if other < one and self.told_rules.get(name) in EITHER_WAY:
            return (name, other, one)
        return (name, one, other)

    def mark(self, values, level):
        """Marks values as touched alone (1) or as made of (2)."""
        for value in values:
            lead = self.leads[value]
            self.marks[lead] = max(self.marks[lead], level)

    def learn(self, name, values, result):
        """A call becomes known; one that settles is known of its result, too."""
        keys = [self.key(name, values)]
        if self.told_rules.get(name) == "settles" and result != GONE:
            keys.append(self.key(name, (result,)))
        pairs = []
        for key in keys:
            if key in self.calls:
                pairs.extend(self._met(self.calls[key], result))
            else:
                self.calls[key] = result
        self._join_all(pairs)

    def answer(self, name, values, truth):
        """What a test says becomes known, and what follows from it."""
        if name == "same":
            self._answer_same(values, truth)
        elif self.told_rules.get(name) == "order":
            self.mark(values, 1)
            if self.forced(name, values) != truth:
                low, high = values if truth else (values[1], values[0])
                self._tell_order(self.leads[low], self.leads[high], truth)
        else:
            self.mark(values, 2)
            if self.said.setdefault(self.key(name, values), truth) != truth:
                self.is_possible = False

    def forced(self, name, values):
        """The truth value that is known of a question already, else None."""
        one, other = self.leads[values[0]], self.leads[values[-1]]
        if name == "same":
            if one == other:
                return True
            return False if self.unlikes[one] >> other & 1 else None
        if self.told_rules.get(name) == "order":
            if one == other or self.ups[other] >> one & 1:
                return False
            return True if self.overs[one] >> other & 1 else None
        return self.said.get(self.key(name, values))

    def make_equal(self, one, other):
        """Two values become equal, and all that is equal then."""
        self._join_all([(one, other)])

    def make_unlike(self, one, other):
        """Two values become unlike."""
        one, other = self.leads[one], self.leads[other]
        if one == other:
            self.is_possible = False
        else:
            self.set_unlike(one, other)
            self.sharpen()

    def set_unlike(self, one, other):
        """Two leaders become unlike; nothing is gathered from it yet."""
        self.unlikes[one] |= 1 << other
        self.unlikes[other] |= 1 << one

    def can_be_equal(self, one, other):
        """Whether it is possible that two values are equal."""
        if self.unlikes[self.leads[one]] >> self.leads[other] & 1:
            return False
        trial = self.fork()
        trial.make_equal(one, other)
        return trial.is_possible

    def _answer_same(self, values, truth):
        if truth:
            self.make_equal(values[0], values[1])
        else:
            self.mark(values, 2)
            if self.forced("same", values) is not False:
                self.make_unlike(values[0], values[1])

    def _met(self, result, other):
        """The pairs to be joined where two results must be equal."""
        if result == GONE or other == GONE:
            self.is_noted = True
            return []
        return [(result, other)]

    def _join_all(self, pairs):
        while pairs and self.is_possible:
            news = [self._unite(one, other) for one, other in pairs]
            pairs = self._follow() if any(news) else []

    def _unite(self, one, other):
        """Makes one group of two, and tells whether it is new."""
        low, high = sorted([self.leads[one], self.leads[other]])
        if low == high:
            return False
        if self.unlikes[low] >> high & 1:
            self.is_possible = False
        self.leads = [low if lead == high else lead for lead in self.leads]
        self.marks[low] = max(self.marks[low], self.marks[high])
        self.unlikes = _renamed(self.unlikes, low, high)
        if self.is_ordered:
            self.ups = _renamed(self.ups, low, high)
            self.overs = _renamed(self.overs, low, high)
            self.ups[low] &= ~(1 << low)
            self._pass_on(low)
        return True

    def _follow(self):
        """What is the same now is known once; returns the pairs that follow."""
        said = {}
        for key, truth in self.said.items():
            if said.setdefault(self.key(key[0], key[1:]), truth) != truth:
                self.is_possible = False
        self.said = said
        pairs = self._follow_calls() + self._follow_shares()
        if any([self.leads[one] == self.leads[other] for one, other in self.squeezed]):
            self.is_noted = True
        if not self.is_ordered:
            return pairs
        self.sharpen()
        return pairs + self._ties()

    def _follow_calls(self):
        calls, pairs = {}, []
        for key, result in self.calls.items():
            now = self.key(key[0], key[1:])
            if now in calls:
                pairs.extend(self._met(calls[now], result))
            # Behind a gone result a held one counts: others are to be joined with it.
            if calls.get(now, GONE) == GONE:
                calls[now] = result
        self.calls = calls
        return pairs

    def _follow_shares(self):
        pairs = []
        for share in self.share_rows():
            results = {}
            for value, result in share:
                if value in results:
                    pairs.extend(self._met(results[value], result))
                if results.get(value, GONE) == GONE:
                    results[value] = result
        return pairs

    def _tell_order(self, low, high, is_strict):
        """One leader is known to be not behind another one, or to be ahead of it."""
        self.is_ordered = True
        if low == high:
            self.is_possible = self.is_possible and not is_strict
            return
        up = 1 << high | self.ups[high]
        for value in range(len(self.ups)):
            if value == low or self.ups[value] >> low & 1:
                is_over = is_strict or self.overs[value] >> low & 1
                self.ups[value] |= up
                self.overs[value] |= up if is_over else self.overs[high]
        self.sharpen()
        self._join_all(self._ties())

    def _pass_on(self, middle):
        """What is not behind a leader is not behind all that this one is not behind."""
        for value in range(len(self.ups)):
            if self.ups[value] >> middle & 1:
                is_over = self.overs[value] >> middle & 1
                self.overs[value] |= self.ups[middle] if is_over else self.overs[middle]
                self.ups[value] |= self.ups[middle]

    def sharpen(self):
        """Unlike ones are strictly ahead, and those strictly ahead are unlike."""
        if not self.is_ordered:
            return
        is_new = True
        while is_new:
            is_new = False
            for value, up in enumerate(self.ups):
                more = up & self.unlikes[value] & ~self.overs[value]
                if more:
                    is_new = True
                    self._tell_over(value, more)
        for value, over in enumerate(self.overs):
            more = over & ~self.unlikes[value]
            if more:
                self.is_possible = self.is_possible and not over >> value & 1
                for other in bits(more):
                    self.set_unlike(value, other)

    def _tell_over(self, low, mask):
        """A leader is strictly ahead of these, and so is all that is not behind it."""
        for high in bits(mask):
            up = 1 << high | self.ups[high]
            for value in range(len(self.ups)):
                if value == low or self.ups[value] >> low & 1:
                    self.overs[value] |= up

    def _ties(self):
        """The pairs of leaders of which neither is behind the other one."""
        if not self.is_ordered:
            return []
        rounds = [value for value, up in enumerate(self.ups) if up >> value & 1]
        return [(one, other) for one in rounds for other in bits(self.ups[one])
                if one != other and self.ups[other] >> one & 1]


def bits(mask):
    """The numbers whose bits are in a mask, ascending."""
    found = []
    while mask:
        low = mask & -mask
        found.append(low.bit_length() - 1)
        mask ^= low
    return found


def _renamed(masks, low, high):
    """The masks of all values when the one leader goes over into the other one."""
    off, on = 1 << high, 1 << low
    masks = [mask ^ off | on if mask & off else mask for mask in masks]
    masks[low] |= masks[high]
    masks[high] = 0
    return masks
