"""What a loop does in one world, section by section.

A state of a loop is a pair: whether it has left, and the tuple of the things that its lasting
registers hold. Ahead of the start it is None.
"""

from unknowncalls.errors import UnlikeNames
from unknowncalls.reading import placed
from unknowncalls.steps import SECTIONS, steps_of


class Doing:
    """A loop in a world."""

    def __init__(self, loop, world):
        if not loop.names == world.names:
            raise UnlikeNames()
        self._world = world
        self._steps = steps_of(loop)
        self._lasting = loop.lasting()
        self._constants = {name: world.constant(name) for name in world.names.constants}
        self._known = {}
        pairs = [pair for word in SECTIONS for pair in placed((word,), loop.section(word))]
        held = {name: True for name in self._lasting}
        self._needed = {"turn": _needed(self._steps["turn"], held, held), "end": _needed(self._steps["end"], {}, held)}
        self._takes = {place: statement[1] is not None for place, statement in pairs if statement[0] == "do"}

    def section(self, word, state, item, given):
        """What is done step by step, the deeds, and the state behind; given are the results of deeds."""
        has_left, held = (False, ()) if state is None else state
        rows, done = [], []
        if has_left and word == "turn":
            return rows, done, state
        env = {name: self._constants[name] for name in self._constants}
        env.update(dict(zip(self._lasting, held)))
        env["item"] = item
        todo = (self._steps[word], 0, None)
        while todo is not None:
            steps, at, outer = todo
            if at == len(steps):
                todo = outer
                continue
            todo = (steps, at + 1, outer)
            worth = self._do(steps[at], env, done, given)
            rows.append((steps[at][1], worth))
            if steps[at][0] == "if":
                todo = (steps[at][5 if worth else 6], 0, todo)
            elif steps[at][0] == "leave":
                has_left, todo = True, None
        return rows, done, (has_left, tuple([env[name] for name in self._lasting]))

    def view(self, word, state):
        """What of a state tells what is done in a section, and which state is behind a turn."""
        if state is None or (state[0] and word == "turn"):
            return state
        return tuple([thing for name, thing in zip(self._lasting, state[1]) if name in self._needed[word]])

    def taken(self, rows):
        """The numbers of the deeds whose results a register takes, of what is done step by step."""
        places = [place for place, _ in rows if place in self._takes]
        return [number for number, place in enumerate(places) if self._takes[place]]

    def _do(self, step, env, done, given):
        """Does a step; returns the thing that it gives, or the truth value."""
        word, _, target, name, sources, _, _ = step
        things = tuple([env[source] for source in sources])
        if word == "leave":
            return None
        if word == "if":
            return things[0] == things[1] if name == "same" else self._says(name, things)
        if word == "put":
            worth = things[0]
        elif word == "call":
            worth = self._gives(name, things)
        else:
            worth = given[len(done)] if len(done) < len(given) else 0
            done.append((name, things))
        if target is not None:
            env[target] = worth
        return worth

    def _says(self, name, things):
        """What a test says; the world is asked once."""
        if (name, things) not in self._known:
            self._known[(name, things)] = self._world.says(name, things)
        return self._known[(name, things)]

    def _gives(self, name, things):
        """What a function gives; the world is asked once."""
        if (name, things) not in self._known:
            self._known[(name, things)] = self._world.gives(name, things)
        return self._known[(name, things)]


def _needed(steps, behind, held):
    """The sources that matter ahead of steps, if these matter behind them, and those that are held behind a leave."""
    needed = behind
    for word, _, target, _, sources, then, other in reversed(steps):
        if word == "leave":
            needed = held
        elif word == "if":
            needed = {**_needed(then, needed, held), **_needed(other, needed, held)}
        elif target is not None:
            needed = {name: True for name in needed if name != target}
        needed = {**needed, **{source: True for source in sources}}
    return needed
