"""Two loops side by side: a run of both, step by step, with what is known in it."""

from unknowncalls.closing import GONE
from unknowncalls.errors import UnlikeNames
from unknowncalls.facts import known_facts
from unknowncalls.steps import steps_of


class Pair:
    """Two loops with equal names, and what both have in common."""

    def __init__(self, one, other):
        if not one.names == other.names:
            raise UnlikeNames()
        names = one.names
        self.constants = names.constants
        self.told_rules = names.rules()
        self.steps = (steps_of(one), steps_of(other))
        self.lastings = (one.lasting(), other.lasting())
        self._known = known_facts(names.constants, names.functions(), self.told_rules, names.facts(), names.apart())

    def first_run(self):
        """The run that has done nothing yet."""
        env = {name: value for value, name in enumerate(self.constants)}
        run = Run(self, self._known.fork(), (False, False), (env, env))
        run.origins = [("constant", name) for name in self.constants]
        return run


class Run:
    """A run of a pair: envs tells for each loop which values its sources have.

    What is told, done and given is that of one section alone; origins tells of all values
    what they are, from the first section on.
    """

    def __init__(self, pair, known, lefts, envs):
        self.pair = pair
        self.known = known
        self.lefts = lefts
        self.envs = envs
        self.word = None
        self.index = -1
        self.side = 2
        self.todo = None
        self.told = ([], [])
        self.done = ([], [])
        self.given = []
        self.origins = []
        self.forgot = None

    def fork(self):
        """The same once more, so that each can go on apart from the other."""
        other = Run(self.pair, self.known.fork(), self.lefts, (dict(self.envs[0]), dict(self.envs[1])))
        other.word = self.word
        other.index = self.index
        other.side = self.side
        other.todo = self.todo
        other.told = (list(self.told[0]), list(self.told[1]))
        other.done = (list(self.done[0]), list(self.done[1]))
        other.given = list(self.given)
        other.origins = list(self.origins)
        return other

    def begin(self, word):
        """Comes to a section, ahead of all that one does in it."""
        self.index += 1
        self.word = word
        self.envs = (self._held_env(0), self._held_env(1))
        if word == "turn":
            value = self._new_value(("item", self.index))
            self.envs[0]["item"] = value
            self.envs[1]["item"] = value
        self.told = ([], [])
        self.done = ([], [])
        self.given = []
        self.side = -1
        self.todo = None

    def go(self):
        """Goes ahead to the next question, and tells whether there is one."""
        while self.forgot is None and self.side < 2:
            if self.todo is None:
                self._turn_over()
                continue
            steps, at, outer = self.todo
            if at == len(steps):
                self.todo = outer
            elif steps[at][0] == "if":
                return True
            else:
                self.todo = (steps, at + 1, outer)
                self._do(steps[at])
        return False

    def question(self):
        """The place, the test and the values of the question that is come to."""
        steps, at, _ = self.todo
        _, place, _, name, sources, _, _ = steps[at]
        env = self.envs[self.side]
        return place, name, [env[source] for source in sources]

    def answer(self, truth):
        """Goes on behind the question by this answer."""
        place, name, values = self.question()
        steps, at, outer = self.todo
        self.told[self.side].append(truth)
        self.known.answer(name, values, truth)
        if self.known.is_possible and self.known.is_noted:
            self.forgot = place
        self.todo = (steps[at][5 if truth else 6], 0, (steps, at + 1, outer))

    def is_parted(self):
        """Whether the deeds of this section are not known to be the same."""
        leads = self.known.leads
        one, other = [[(deed, [leads[value] for value in values]) for deed, values in done] for done in self.done]
        return one != other

    def _held_env(self, side):
        """The values of the constants, and behind the start those of the lasting registers."""
        lasting = self.pair.lastings[side] if self.index else []
        env = self.envs[side]
        return {name: env[name] for name in [*self.pair.constants, *lasting]}

    def _turn_over(self):
        """Comes to the first step of the next loop."""
        self.side += 1
        if self.side < 2 and not (self.word == "turn" and self.lefts[self.side]):
            self.todo = (self.pair.steps[self.side][self.word], 0, None)

    def _do(self, step):
        word, place, target, name, sources, _, _ = step
        env = self.envs[self.side]
        values = [env[source] for source in sources]
        if word == "put":
            env[target] = values[0]
        elif word == "call":
            env[target] = self._call(name, values)
            if env[target] == GONE:
                self.forgot = place
        elif word == "do":
            result = self._do_deed(name, values)
            if target is not None:
                env[target] = result
        else:
            self.lefts = (self.lefts[0] or self.side == 0, self.lefts[1] or self.side == 1)
            self.todo = None

    def _call(self, name, values):
        self.known.mark(values, 2)
        result = self.known.calls.get(self.known.key(name, values))
        if result is None:
            result = self._new_value(("call", name, tuple(values)))
            self.known.learn(name, values, result)
        return result

    def _do_deed(self, name, values):
        """The result of a deed: that of the one that has the same number in the other loop."""
        number = len(self.done[self.side])
        self.done[self.side].append((name, tuple(values)))
        if number == len(self.given):
            self.given.append(self._new_value(("result", self.index, number)))
        return self.given[number]

    def _new_value(self, origin):
        self.origins.append(origin)
        return self.known.fresh()
