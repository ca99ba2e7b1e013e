"""Runs that are told: gone through again answer by answer, and nothing is ever let go."""

from unknowncalls.errors import Impossible
from unknowncalls.worlds import World


class Story:
    """A run of a pair; rows are triples of a word, a reading and a pair of lists of truth values.

    reads are the items that come to each loop, also behind a leave; done and given tell of
    each section the deeds of both and their results.
    """

    def __init__(self, pair, rows):
        self.run = pair.first_run()
        self.reads = ([], [])
        self.done = []
        self.given = []
        for index, (word, reading, truths) in enumerate(rows):
            self.run.begin(word, reading)
            for items, env in zip(self.reads, self.run.envs):
                if "item" in env:
                    items.append(env["item"])
            self._follow(index, truths)
            self.done.append(self.run.done)
            self.given.append(self.run.given)

    def deeds(self, side, known):
        """The deeds of a loop, section by section, by what is known."""
        return [[(deed, leads_of(known, values)) for deed, values in done[side - 1]] for done in self.done]

    def parts(self, known):
        """The number of the first section in which both do not do the same deeds, else None."""
        for index, (done, others) in enumerate(zip(self.deeds(1, known), self.deeds(2, known))):
            if done != others:
                return index
        return None

    def world(self, known):
        """A world in which all groups of what is known are unlike things, the items of both, and the results."""
        names = self.run.pair.names
        things = {lead: thing for thing, lead in enumerate(known.leaders())}
        functions, tests = {}, {}
        for key, result in known.calls.items():
            table = functions.setdefault(key[0], {})
            table[tuple([things[value] for value in key[1:]])] = things[known.leads[result]]
        for key, truth in known.said.items():
            if truth:
                tests.setdefault(key[0], []).append(tuple([things[value] for value in key[1:]]))
        for name, rule in names.rules().items():
            if rule == "order" and things:
                tests[name] = [things[lead] for lead in _line(known)]
        constants = dict(zip(names.constants, _things(known, things, list(range(len(names.constants))))))
        world = World(names, max(len(things), 1), constants, functions, tests)
        items = [_things(known, things, values) for values in self.reads]
        return world, items, [_things(known, things, given) for given in self.given]

    def _follow(self, index, truths):
        """Goes through a section as it is told."""
        run = self.run
        while run.go():
            at = len(run.told[run.side])
            run.answer(truths[run.side][at])
            if not run.known.is_possible:
                raise Impossible(index, run.side + 1, at)


def leads_of(known, values):
    """The leaders of values."""
    return tuple([known.leads[value] for value in values])


def _things(known, things, values):
    return [things[lead] for lead in leads_of(known, values)]


def _line(known):
    """The leaders in an order that keeps what is known of it."""
    leaders = known.leaders()
    ahead = [(sum([known.ups[other] >> lead & 1 for other in leaders]), lead) for lead in leaders]
    return [lead for _, lead in sorted(ahead)]
