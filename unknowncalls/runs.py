"""Two loops side by side: a run of both, step by step, with what is known in it."""

from unknowncalls.closing import GONE
from unknowncalls.errors import UnlikeNames
from unknowncalls.facts import known_facts
from unknowncalls.readings import READINGS, WAITING
from unknowncalls.steps import steps_of


class Pair:
    """Two loops with equal names, and what both have in common.

    test is the one that new items are told by, where a reading tells what it says of them.
    """

    def __init__(self, one, other, test=None):
        if not one.names == other.names:
            raise UnlikeNames()
        names = one.names
        self.names = names
        self.test = test
        self.constants = names.constants
        self.told_rules = names.rules()
        self.steps = (steps_of(one), steps_of(other))
        self.lastings = (one.lasting(), other.lasting())
        self._known = known_facts(names.constants, names.functions(), self.told_rules, names.facts(), names.apart())

    def first_run(self):
        """The run that has done nothing yet."""
        env = {name: value for value, name in enumerate(self.constants)}
        run = Run(self, self._known.fork(), (False, False), (env, env))
        run.origins = [("constant", name) for name in self.constants]
        return run


class Run:
    """A run of a pair: envs tells for each loop which values its sources have.

    What is told, done and given is that of one section alone; origins tells of all values
    what they are, from the first section on. waits are the items that are still to come to
    one of both. A watch is told of each step that the run comes to.
    """

    def __init__(self, pair, known, lefts, envs):
        self.pair = pair
        self.known = known
        self.lefts = lefts
        self.envs = envs
        self.waits = (None, None)
        self.watch = None
        self.word = None
        self.index = -1
        self.side = 2
        self.todo = None
        self.told = ([], [])
        self.done = ([], [])
        self.given = []
        self.origins = []
        self.forgot = None

    def fork(self):
        """The same once more, so that each can go on apart from the other."""
        other = Run(self.pair, self.known.fork(), self.lefts, (dict(self.envs[0]), dict(self.envs[1])))
        other.waits = self.waits
        other.watch = self.watch
        other.word = self.word
        other.index = self.index
        other.side = self.side
        other.todo = self.todo
        other.told = (list(self.told[0]), list(self.told[1]))
        other.done = (list(self.done[0]), list(self.done[1]))
        other.given = list(self.given)
        other.origins = list(self.origins)
        return other

    def begin(self, word, reading="together"):
        """Comes to a section, ahead of all that one does in it; the reading tells who reads what in a turn."""
        self.index += 1
        self.word = word
        self.envs = (self._held_env(0), self._held_env(1))
        if word == "turn":
            self._read(READINGS[reading])
        self.told = ([], [])
        self.done = ([], [])
        self.given = []
        self.side = -1
        self.todo = None

    def go(self):
        """Goes ahead to the next question, and tells whether there is one."""
        while self.forgot is None and self.side < 2:
            if self.todo is None:
                self._turn_over()
                continue
            steps, at, outer = self.todo
            if at == len(steps):
                self.todo = outer
                continue
            if self.watch is not None:
                self.watch.come(self, steps[at])
            if steps[at][0] == "if":
                return True
            self.todo = (steps, at + 1, outer)
            self._do(steps[at])
        return False

    def wanted(self):
        """The step of the question that is come to, None if the section is done."""
        return None if self.todo is None else self.todo[0][self.todo[1]]

    def question(self):
        """The place, the test and the values of the question that is come to."""
        steps, at, _ = self.todo
        _, place, _, name, sources, _, _ = steps[at]
        env = self.envs[self.side]
        return place, name, [env[source] for source in sources]

    def answer(self, truth):
        """Goes on behind the question by this answer."""
        place, name, values = self.question()
        steps, at, outer = self.todo
        self.told[self.side].append(truth)
        self.known.answer(name, values, truth)
        if self.known.is_possible and self.known.is_noted:
            self.forgot = place
        self.todo = (steps[at][5 if truth else 6], 0, (steps, at + 1, outer))

    def is_parted(self):
        """Whether the deeds of this section are not known to be the same."""
        leads = self.known.leads
        one, other = [[(deed, [leads[value] for value in values]) for deed, values in done] for done in self.done]
        return one != other

    def _held_env(self, side):
        """The values of the constants, and behind the start those of the lasting registers."""
        lasting = self.pair.lastings[side] if self.index else []
        env = self.envs[side]
        return {name: env[name] for name in [*self.pair.constants, *lasting]}

    def _read(self, reading):
        """Gives the items of a turn; one that reads none has none, and does nothing."""
        truths, reads, behind = reading
        news = [self._new_value(("item", self.index)) for _ in truths]
        for value, truth in zip(news, truths):
            if truth is not None:
                self.known.answer(self.pair.test, [value], truth)
        for env, at, waiting in zip(self.envs, reads, self.waits):
            item = waiting if at == WAITING else _picked(news, at)
            if item is not None:
                env["item"] = item
        self.waits = (_picked(news, behind[0]), _picked(news, behind[1]))

    def _turn_over(self):
        """Comes to the first step of the next loop that does this section."""
        self.side += 1
        if self.side == 2:
            return
        if self.word == "turn" and (self.lefts[self.side] or "item" not in self.envs[self.side]):
            return
        self.todo = (self.pair.steps[self.side][self.word], 0, None)

    def _do(self, step):
        word, place, target, name, sources, _, _ = step
        env = self.envs[self.side]
        values = [env[source] for source in sources]
        if word == "put":
            env[target] = values[0]
        elif word == "call":
            env[target] = self._call(name, values)
            if env[target] == GONE:
                self.forgot = place
        elif word == "do":
            result = self._do_deed(name, values)
            if target is not None:
                env[target] = result
        else:
            self.lefts = (self.lefts[0] or self.side == 0, self.lefts[1] or self.side == 1)
            self.todo = None

    def _call(self, name, values):
        self.known.mark(values, 2)
        result = self.known.calls.get(self.known.key(name, values))
        if result is None:
            result = self._new_value(("call", name, tuple(values)))
            self.known.learn(name, values, result)
        return result

    def _do_deed(self, name, values):
        """The result of a deed: that of the one that has the same number in the other loop."""
        number = len(self.done[self.side])
        self.done[self.side].append((name, tuple(values)))
        if number == len(self.given):
            self.given.append(self._new_value(("result", self.index, number)))
        return self.given[number]

    def _new_value(self, origin):
        self.origins.append(origin)
        return self.known.fresh()


def _picked(values, at):
    """The value at a place of a list; at none there is none."""
    return None if at is None else values[at]
