"""Tales: what is known of a run of two loops, when nothing is ever let go."""

from unknowncalls.errors import BadAnswers, BadSide, Impossible, NoRegister, NoValue
from unknowncalls.runs import Pair
from unknowncalls.words import as_below, as_integer, as_list, as_text
from unknowncalls.worlds import World


class Tale:
    """A run that is told by its answers, section by section."""

    def __init__(self, one, other, answers, ended=False):
        pair = Pair(one, other)
        told = _read_answers(pair, answers, ended)
        self._names = one.names
        self._run = pair.first_run()
        self._items = []
        self._done = []
        self._given = []
        for index, (word, truths) in enumerate(told):
            self._run.begin(word)
            if word == "turn":
                self._items.append(len(self._run.origins) - 1)
            _follow(self._run, index, truths)
            self._done.append(self._run.done)
            self._given.append(self._run.given)

    def many(self):
        """The number of the values."""
        return len(self._run.origins)

    def origin(self, value):
        """What a value is: a constant, an item, a result of a deed, or one of a call."""
        origin = self._run.origins[self._as_value(value)]
        if origin[0] != "call":
            return origin
        return ("call", origin[1], self._leads(origin[2]))

    def groups(self):
        """The tuples of the values that are known equal."""
        groups = {}
        for value, lead in enumerate(self._run.known.leads):
            groups.setdefault(lead, []).append(value)
        return [tuple(values) for values in groups.values()]

    def are_equal(self, value, other):
        """True if two values are known equal, False if no world has them equal, else None."""
        one, two = self._as_value(value), self._as_value(other)
        if self._run.known.leads[one] == self._run.known.leads[two]:
            return True
        return None if self._run.known.can_be_equal(one, two) else False

    def held(self, side, name):
        """The least value of the group that a lasting register holds in the end."""
        number, word = as_integer(side), as_text(name)
        if number not in (1, 2) or word not in self._run.pair.lastings[number - 1]:
            raise NoRegister(side, name)
        return self._run.known.leads[self._run.envs[number - 1][word]]

    def deeds(self, side):
        """The deeds of a loop, section by section."""
        number = as_integer(side)
        if number not in (1, 2):
            raise BadSide(side)
        return [[(deed, self._leads(values)) for deed, values in done[number - 1]] for done in self._done]

    def parts(self):
        """The number of the first section in which both do not do the same deeds, else None."""
        for index, (done, others) in enumerate(zip(self.deeds(1), self.deeds(2))):
            if done != others:
                return index
        return None

    def world(self):
        """A world in which all groups are unlike things, with the items and the results."""
        known = self._run.known
        things = {lead: thing for thing, lead in enumerate(known.leaders())}
        functions, tests = {}, {}
        for key, result in known.calls.items():
            table = functions.setdefault(key[0], {})
            table[tuple([things[value] for value in key[1:]])] = things[known.leads[result]]
        for key, truth in known.said.items():
            if truth:
                tests.setdefault(key[0], []).append(tuple([things[value] for value in key[1:]]))
        for name, rule in self._names.rules().items():
            if rule == "order" and things:
                tests[name] = [things[lead] for lead in _line(known)]
        values = self._leads(list(range(len(self._names.constants))))
        constants = {name: things[value] for name, value in zip(self._names.constants, values)}
        world = World(self._names, max(len(things), 1), constants, functions, tests)
        items = [things[value] for value in self._leads(self._items)]
        return world, items, [[things[value] for value in self._leads(given)] for given in self._given]

    def _leads(self, values):
        return tuple([self._run.known.leads[value] for value in values])

    def _as_value(self, thing):
        value = as_below(thing, self.many())
        if value is None:
            raise NoValue(thing)
        return value


def _line(known):
    """The leaders in an order that keeps what is known of it."""
    leaders = known.leaders()
    ahead = [(sum([known.ups[other] >> lead & 1 for other in leaders]), lead) for lead in leaders]
    return [lead for _, lead in sorted(ahead)]


def _follow(run, index, truths):
    """Goes through a section as it is told."""
    while run.go():
        at = len(run.told[run.side])
        run.answer(truths[run.side][at])
        if not run.known.is_possible:
            raise Impossible(index, run.side + 1, at)


def _read_answers(pair, answers, is_ended):
    """The pairs of the word of a section and what both loops are answered in it."""
    rows = as_list(answers)
    if not rows:
        raise BadAnswers(0)
    found, lefts = [], (False, False)
    for index, thing in enumerate(rows):
        word = "turn" if index else "start"
        if index and is_ended and index == len(rows) - 1:
            word = "end"
        truths = _as_truths(thing)
        if truths is None:
            raise BadAnswers(index)
        steps = [() if word == "turn" and left else told[word] for left, told in zip(lefts, pair.steps)]
        ways = [_way(*told) for told in zip(steps, truths)]
        if None in ways:
            raise BadAnswers(index)
        lefts = (lefts[0] or ways[0], lefts[1] or ways[1])
        found.append((word, truths))
    if is_ended and len(rows) == 1:
        raise BadAnswers(1)
    return found


def _as_truths(thing):
    """The thing as a pair of lists of truth values, None if it is none."""
    parts = as_list(thing)
    if parts is None or len(parts) != 2:
        return None
    truths = [as_list(part) for part in parts]
    if None in truths or not all([isinstance(truth, bool) for part in truths for truth in part]):
        return None
    return truths


def _way(steps, truths):
    """Whether the way through a section leaves, None if it takes more answers, or less."""
    todo, at = (steps, 0, None), 0
    has_left = False
    while todo is not None:
        block, index, outer = todo
        if index == len(block):
            todo = outer
            continue
        todo = (block, index + 1, outer)
        if block[index][0] == "leave":
            has_left, todo = True, None
        elif block[index][0] == "if":
            if at == len(truths):
                return None
            todo = (block[index][5 if truths[at] else 6], 0, todo)
            at += 1
    return has_left if at == len(truths) else None
