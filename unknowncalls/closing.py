"""What follows from calls, tests and rules about values that are numbered from 0.

A call is a triple (function, values, result), an answer a triple (test, values, truth
value), and rules the dict from functions and tests to the rule that is known of each.
"""


class Groups:
    """Which values are known to be equal; each group is led by its least value."""

    def __init__(self, many):
        self._leasts = list(range(many))

    def least(self, value):
        """The least value that is known to be equal to this one."""
        return self._leasts[value]

    def leasts(self):
        """The least values of all groups, ascending."""
        return [value for value, least in enumerate(self._leasts) if value == least]

    def are_equal(self, value, other):
        """Whether two values are known to be equal."""
        return self._leasts[value] == self._leasts[other]

    def unite(self, value, other):
        """Makes two values equal, and tells whether that is new."""
        low, high = sorted([self._leasts[value], self._leasts[other]])
        self._leasts = [low if least == high else least for least in self._leasts]
        return low < high


def close(groups, rules, calls, answers):
    """Joins whatever is equal by the calls and the answers, until nothing new follows."""
    known = calls + _settled(rules, calls)
    while _join_all(groups, _same_results(groups, rules, known) + _ties(groups, rules, answers)):
        pass


def is_possible(groups, rules, answers, unlike):
    """Whether groups that are closed go with the answers, and with the pairs that are unlike."""
    if any([groups.are_equal(value, other) for value, other in unlike]):
        return False
    said = {}
    for test, values, truth in answers:
        if said.setdefault(_key(groups, rules, test, values), truth) != truth:
            return False
        if rules.get(test) == "order" and truth and groups.are_equal(values[0], values[1]):
            return False
    return True


def _join_all(groups, pairs):
    """Joins all pairs, and tells whether some of them was not joined yet."""
    is_new = False
    for value, other in pairs:
        is_new = groups.unite(value, other) or is_new
    return is_new


def _key(groups, rules, name, values):
    """Equal for just those calls, or questions, that must have the same result."""
    leasts = [groups.least(value) for value in values]
    if rules.get(name) in ("swaps", "both"):
        leasts = sorted(leasts)
    return (name, tuple(leasts))


def _settled(rules, calls):
    """A function that settles gives each of its results of this result again."""
    return [(name, (result,), result) for name, _, result in calls if rules.get(name) == "settles"]


def _same_results(groups, rules, calls):
    """The pairs of results of calls that must have the same one."""
    firsts = {}
    pairs = []
    for name, values, result in calls:
        pairs.append((firsts.setdefault(_key(groups, rules, name, values), result), result))
    return pairs


def _ties(groups, rules, answers):
    """The pairs of which each value is known to be not behind the other one."""
    steps = _steps(groups, rules, answers)
    leasts = groups.leasts()
    for middle in leasts:
        ahead = [value for value in leasts if (value, middle) in steps]
        behind = [value for value in leasts if (middle, value) in steps]
        steps.update({(value, other): True for value in ahead for other in behind})
    return [(value, other) for value, other in steps if (other, value) in steps]


def _steps(groups, rules, answers):
    """The pairs (x, y) of groups of which an order has told x <= y, as keys of a dict."""
    steps = {}
    for test, values, truth in answers:
        if rules.get(test) == "order":
            low, high = values if truth else (values[1], values[0])
            steps[(groups.least(low), groups.least(high))] = True
    return steps
