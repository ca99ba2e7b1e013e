"""Tales: what is known of a run of two loops, when nothing is ever let go."""

from unknowncalls.errors import BadAnswers, BadSide, NoRegister, NoValue
from unknowncalls.runs import Pair
from unknowncalls.steps import way_of
from unknowncalls.stories import Story, leads_of
from unknowncalls.words import as_below, as_integer, as_list, as_text


class Tale:
    """A run that is told by its answers, section by section."""

    def __init__(self, one, other, answers, ended=False):
        pair = Pair(one, other)
        told = _read_answers(pair, answers, ended)
        self._story = Story(pair, [(word, "together", truths) for word, truths in told])
        self._run = self._story.run

    def many(self):
        """The number of the values."""
        return len(self._run.origins)

    def origin(self, value):
        """What a value is: a constant, an item, a result of a deed, or one of a call."""
        origin = self._run.origins[self._as_value(value)]
        if origin[0] != "call":
            return origin
        return ("call", origin[1], leads_of(self._run.known, origin[2]))

    def groups(self):
        """The tuples of the values that are known equal."""
        groups = {}
        for value, lead in enumerate(self._run.known.leads):
            groups.setdefault(lead, []).append(value)
        return [tuple(values) for values in groups.values()]

    def are_equal(self, value, other):
        """True if two values are known equal, False if no world has them equal, else None."""
        one, two = self._as_value(value), self._as_value(other)
        if self._run.known.leads[one] == self._run.known.leads[two]:
            return True
        return None if self._run.known.can_be_equal(one, two) else False

    def held(self, side, name):
        """The least value of the group that a lasting register holds in the end."""
        number, word = as_integer(side), as_text(name)
        if number not in (1, 2) or word not in self._run.pair.lastings[number - 1]:
            raise NoRegister(side, name)
        return self._run.known.leads[self._run.envs[number - 1][word]]

    def deeds(self, side):
        """The deeds of a loop, section by section."""
        number = as_integer(side)
        if number not in (1, 2):
            raise BadSide(side)
        return self._story.deeds(number, self._run.known)

    def parts(self):
        """The number of the first section in which both do not do the same deeds, else None."""
        return self.parts_by(self._run.known)

    def parts_by(self, known):
        """The same, by what is known else."""
        return self._story.parts(known)

    def world(self):
        """A world in which all groups are unlike things, with the items and the results."""
        return self.world_by(self._run.known)

    def world_by(self, known):
        """The same, by what is known else."""
        world, items, results = self._story.world(known)
        return world, items[0], results

    def trial(self):
        """All that is known in the end, once more, so that more can become known of it."""
        return self._run.known.fork()

    def _as_value(self, thing):
        value = as_below(thing, self.many())
        if value is None:
            raise NoValue(thing)
        return value


def _read_answers(pair, answers, is_ended):
    """The pairs of the word of a section and what both loops are answered in it."""
    rows = as_list(answers)
    if not rows:
        raise BadAnswers(0)
    found, lefts = [], (False, False)
    for index, thing in enumerate(rows):
        word = "turn" if index else "start"
        if index and is_ended and index == len(rows) - 1:
            word = "end"
        truths = _as_truths(thing)
        if truths is None:
            raise BadAnswers(index)
        steps = [() if word == "turn" and left else told[word] for left, told in zip(lefts, pair.steps)]
        ways = [_way(*told) for told in zip(steps, truths)]
        if None in ways:
            raise BadAnswers(index)
        lefts = (lefts[0] or ways[0], lefts[1] or ways[1])
        found.append((word, truths))
    if is_ended and len(rows) == 1:
        raise BadAnswers(1)
    return found


def _as_truths(thing):
    """The thing as a pair of lists of truth values, None if it is none."""
    parts = as_list(thing)
    if parts is None or len(parts) != 2:
        return None
    truths = [as_list(part) for part in parts]
    if None in truths or not all([isinstance(truth, bool) for part in truths for truth in part]):
        return None
    return truths


def _way(steps, truths):
    """Whether the way through a section leaves, None if it takes more answers, or less."""
    words = [step[0] for step in way_of(steps, truths)]
    return words[-1:] == ["leave"] if words.count("if") == len(truths) else None
