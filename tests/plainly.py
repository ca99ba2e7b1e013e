"""Points [23], [25], [29] to [32] once more, as plainly as the document has them, on top of tests.plain."""

import itertools
from fractions import Fraction

from tests.plain import Cannot, Section, first_state, picture, state_of
from unknowncalls.loops import Loop

SECTIONS = ("start", "turn", "end")


def statements(loop):
    """A dict from all places to their statements, in order."""
    found = {}

    def go(place, block):
        for index, statement in enumerate(block):
            found[place + (index,)] = statement
            if statement[0] == "if":
                go(place + (index, "then"), statement[2])
                go(place + (index, "else"), statement[3])

    for word in SECTIONS:
        go((word,), loop.section(word))
    return found


def sources(loop, place):
    """What can be a source ahead of the statement at a place, by all ways through the sections."""

    def ways(block, at):
        """All ways through a block: lists of (place, statement), and whether they leave."""
        found = [([], False)]
        for index, statement in enumerate(block):
            spot = at + (index,)
            rest = [([], statement[0] == "leave")]
            if statement[0] == "if":
                rest = ways(statement[2], spot + ("then",)) + ways(statement[3], spot + ("else",))
            found = [way for way in found if way[1]] + [
                (done + [(spot, statement)] + more, left)
                for done, is_left in found if not is_left for more, left in rest]
        return found

    rows = []
    for done, _ in ways(loop.section(place[0]), (place[0],)):
        spots = [spot for spot, _ in done]
        if place in spots:
            ahead = done[:spots.index(place)]
            rows.append({row[1] for _, row in ahead if row[0] in ("put", "call", "do")})
    put = set.intersection(*rows) if rows else set(loop.registers())
    if place[0] != "start":
        put |= set(loop.lasting())
    registers = [name for name in loop.registers() if name in put]
    return registers + list(loop.names.constants) + ["item"] * (place[0] == "turn")


class Seeing(Section):
    """A section that keeps what is seen at each place."""

    def see(self, statement, env):
        if self.side == 0:
            self.seen.append((self.place, statement, dict(env), self.look(env)))

    def see_answer(self, truth):
        self.answered.append((self.place, truth))

    def look(self, env):
        """What is known here of all pairs of sources, and of the value of a call."""
        state, names = self.state, [name for name in self.sources_at[self.place]]
        pairs = list(itertools.permutations(names, 2))
        return {
            "equal": {pair for pair in pairs if state.eq(env[pair[0]], env[pair[1]])},
            "unlike": {pair for pair in pairs if not state.eq(env[pair[0]], env[pair[1]])
                       and state.cannot_be_equal(env[pair[0]], env[pair[1]])},
            "behind": {pair for pair in pairs if (env[pair[0]], env[pair[1]]) in state.all_le
                       or state.eq(env[pair[0]], env[pair[1]])},
            "ahead": {pair for pair in pairs if (env[pair[0]], env[pair[1]]) in state.all_lt},
            "result": self.result(env, names),
        }

    def result(self, env, names):
        statement = self.statements[self.place]
        if statement[0] != "call":
            return None
        values = [env[name] for name in statement[3:]]
        found = set()
        for name, told, result in self.state.settled_calls():
            if name == statement[2] and self.state.meet(name, values, told) and result != "gone":
                found |= {source for source in names if self.state.eq(env[source], result)}
        return found


class PlainAlone:
    """All runs of a loop alone, picture by picture: what is seen at each place, and the turns."""

    def __init__(self, loop, most=12):
        self.loop = loop
        self.pair = (loop, Loop(loop.names, [], [], []))
        self.statements = statements(loop)
        self.sources = {place: sources(loop, place) for place in self.statements}
        self.looks = {place: [] for place in self.statements}
        self.truths = {place: set() for place in self.statements}
        self.depths, self.turns, self.all_turns, self.forgotten = {}, [], [], None
        self.is_whole = True
        level = self.section([(None, (*first_state(loop.names), (False, False)))], "start", 0)
        items = 0
        while level and self.forgotten is None:
            self.section([(told, self.begun(told)) for told in level], "end", items)
            items += 1
            level = self.section([(told, self.begun(told)) for told in level if not told[0][0]], "turn", items)
            if len(self.depths) > most:
                self.is_whole = False
                break

    def begun(self, told):
        return (*state_of(self.loop.names.rules(), told), told[0])

    def section(self, ahead, word, items):
        news = []
        for told, (state, holders, left) in ahead:
            todo = [()]
            while todo:
                answers = todo.pop()
                section = Seeing(self.pair, state.copy(), dict(holders), left, word)
                section.sources_at, section.statements = self.sources, self.statements
                section.seen, section.answered = [], []
                try:
                    found = section.run(answers)
                except Cannot:
                    continue
                self.keep(section)
                if found == "wanted":
                    todo += [answers + (True,), answers + (False,)]
                elif found == "forgets":
                    self.forgotten = min(self.forgotten or 99, items + (2 if word == "end" else 1))
                elif word != "end":
                    behind = section.picture()
                    if behind not in self.depths:
                        self.depths[behind] = items
                        news.append(behind)
                    if word == "turn":
                        self.keep_turn(told, behind, section)
        return news

    def keep(self, section):
        for place, _, _, look in section.seen:
            self.looks[place].append(look)
        for place, truth in section.answered:
            self.truths[place].add(truth)

    def keep_turn(self, told, behind, section):
        names = []
        for _, statement, _, _ in section.seen:
            if statement[0] in ("call", "do"):
                names.append(statement[2])
            elif statement[0] == "if":
                names.append("same" if statement[1][0] == "same" else statement[1][1])
        deeds = {name for name, _ in section.deeds[0]}
        self.all_turns.append(names)
        if not behind[0][0]:
            self.turns.append((told, behind, list(section.told[0]), deeds, names))

    def never(self):
        return [place for place in self.statements if not self.looks[place]]

    def always(self, place, kind):
        """The pairs of sources of which something is so whenever a run comes there."""
        return set.intersection(*[look[kind] for look in self.looks[place]])

    def sure(self, place):
        if not self.looks[place]:
            return None
        equal, found = self.always(place, "equal"), []
        names = self.sources[place]
        for name in names:
            group = tuple(other for other in names if other == name or (name, other) in equal)
            if len(group) > 1 and group not in found:
                found.append(group)
        return found

    def pairs(self, place, kind):
        always, names = self.always(place, kind), self.sources[place]
        return [(one, other) for one in names for other in names if (one, other) in always]

    def never_equal(self, place):
        if not self.looks[place]:
            return None
        order = self.sources[place]
        return [pair for pair in self.pairs(place, "unlike") if order.index(pair[0]) < order.index(pair[1])]

    def order_at(self, place):
        if not self.looks[place]:
            return None
        ahead = self.always(place, "ahead")
        return [(*pair, pair in ahead) for pair in self.pairs(place, "behind")]

    def needless(self):
        found = {}
        for place, statement in self.statements.items():
            if statement[0] == "call" and self.looks[place]:
                always = self.always(place, "result")
                rows = [name for name in self.sources[place] if name in always]
                if rows:
                    found[place] = rows[0]
        return found

    def settled(self):
        return {place: list(truths)[0] for place, truths in self.truths.items() if len(truths) == 1}

    def shortest(self, deeds):
        """The number of sections of the shortest lasso, None if there is none."""
        edges = {}
        for told, behind, _, done, _ in self.turns:
            if not done & set(deeds):
                edges.setdefault(told, set()).add(behind)
        found = None
        for first in edges:
            seen, level, many = set(), {first}, 0
            while level and first not in seen:
                level = {behind for told in level for behind in edges.get(told, ())} - seen
                seen |= level
                many += 1
            if first in seen:
                total = 1 + self.depths[first] + many
                found = total if found is None else min(found, total)
        return found

    def costs(self, weights):
        return [sum(weights.get(name, 0) for name in names) for names in self.all_turns]

    def edges(self, weights):
        """The greatest cost of a turn from one picture to another one."""
        found = {}
        for told, behind, _, _, names in self.turns:
            cost = sum(weights.get(name, 0) for name in names)
            found[told, behind] = max(cost, found.get((told, behind), cost))
        return found

    def dearest(self, weights):
        """The greatest mean and the surplus, None if each run leaves; by all ways of as many turns as there are pictures."""
        edges = self.edges(weights)
        mean, pictures = None, list(self.depths)
        for first in pictures:
            best = {first: 0}
            for many in range(1, len(pictures) + 1):
                news = {}
                for (one, other), cost in edges.items():
                    if one in best:
                        news[other] = max(best[one] + cost, news.get(other, best[one] + cost))
                best = news
                if first in best:
                    told = Fraction(best[first], many)
                    mean = told if mean is None else max(mean, told)
        if mean is None:
            return None
        sums = {told: Fraction(0) for told, depth in self.depths.items() if depth == 0}
        for _ in pictures:
            for (one, other), cost in edges.items():
                if one in sums:
                    sums[other] = max(sums[one] + cost - mean, sums.get(other, sums[one] + cost - mean))
        return mean, max([Fraction(0), *sums.values()]) * mean.denominator


def plain_picture_behind(loop, answers):
    """The picture of a loop alone behind sections with these answers, the start and turns."""
    pair = (loop, Loop(loop.names, [], [], []))
    state, holders = first_state(loop.names)
    left, told = (False, False), None
    for index, row in enumerate(answers):
        section = Section(pair, state, holders, left, "turn" if index else "start")
        found = section.run(tuple(row))
        assert found is None and section.told == (list(row), []), (found, section.told)
        told = section.picture()
        (state, holders), left = state_of(loop.names.rules(), told), told[0]
    return told


class EditSection(Section):
    """A section in which each of both reads an item of its own, or none; waits are the items still to come."""

    def __init__(self, pair, state, holders, left, word, items, waits):
        super().__init__(pair, state, holders, left, word if word != "turn" else "none")
        self.word, self.items, self.waits = word, items, waits

    def run(self, answers):
        self.told, answers = ([], []), list(answers)
        for side in (0, 1):
            if self.word == "turn" and (self.left[side] or self.items[side] is None):
                continue
            env = {**self.envs[side], **self.constants, "item": self.items[side]}
            found = self.block(self.pair[side].section(self.word), (self.word,), side, env, answers)
            if found in ("wanted", "forgets"):
                return found
            self.left[side] = self.left[side] or found == "leave"
            self.envs[side] = {name: env[name] for name in self.pair[side].lasting()}
        return None

    def picture(self):
        held = [((side + 1, name), self.envs[side][name]) for side in (0, 1) for name in self.pair[side].lasting()]
        held += [((0, name), self.constants[name]) for name in self.pair[0].names.constants]
        held += [((side + 1, "item"), value) for side, value in enumerate(self.waits) if value is not None]
        return picture(self.state, tuple(self.left), held)


# What can be read in each stage: kinds of turns, and the stages behind them; the end comes in the last stage.
STAGES = {
    "exchanged": [[("same", 0), ("cross", 1)], [("rest", 2)], [("same", 2)]],
    "doubled": [[("same", 0), ("first", 1)], [("rest", 2)], [("same", 2)]],
    "dropped": [[("same", 0), ("drop", 1)], [("same", 1)]],
    "leaks": [[("no", 0), ("yes", 0)]],
}


class PlainEdits:
    """All runs of an edit, or with secrets: the least number of turns with which one parts, or forgets."""

    def __init__(self, loop, kind, test=None, most=40):
        self.loop, self.test, self.stages = loop, test, STAGES[kind]
        self.parted, self.forgotten, self.is_whole = None, None, True
        self.known = []
        state, holders = first_state(loop.names)
        level = self.section([(0, state, holders, (False, False), "same")], "start", 0)
        turns = 0
        while level and self.parted is None:
            last = len(self.stages) - 1
            ends = [(stage, *self.begun(told), "same") for stage, told in level if stage == last]
            self.section(ends, "end", turns)
            turns += 1
            moves = [(stage, told, move) for stage, told in level for move in self.stages[stage]]
            level = self.section([(move[1], *self.begun(told), move[0]) for _, told, move in moves], "turn", turns)
            if len(self.known) > most:
                self.is_whole = False
                break

    def begun(self, told):
        return (*state_of(self.loop.names.rules(), told), told[0])

    def read(self, kind, state, holders):
        """The items of both, and those still to come."""
        if kind == "rest":
            return (holders.get((1, "item")), holders.get((2, "item"))), (None, None)
        one = state.new()
        if kind in ("cross", "yes"):
            two = state.new()
            state.gather()
            if kind == "cross":
                return (one, two), (two, one)
            state.answer(self.test, [one], True)
            state.answer(self.test, [two], True)
            return (one, two), (None, None)
        state.gather()
        if kind in ("drop", "no"):
            state.answer(self.test, [one], kind == "drop")
        if kind == "drop":
            return (one, None), (None, None)
        return (one, one), (one if kind == "first" else None, None)

    def section(self, begun, word, turns):
        news = []
        for stage, state, holders, left, kind in begun:
            items, waits = (None, None), (None, None)
            state = state.copy()
            if word == "turn":
                items, waits = self.read(kind, state, holders)
            holders = {holder: value for holder, value in holders.items() if holder[1] != "item"}
            todo = [()]
            while todo:
                answers = todo.pop()
                section = EditSection((self.loop, self.loop), state.copy(), dict(holders), left, word, items, waits)
                try:
                    found = section.run(answers)
                except Cannot:
                    continue
                if found == "wanted":
                    todo += [answers + (True,), answers + (False,)]
                elif found == "forgets":
                    self.forgotten = turns if self.forgotten is None else self.forgotten
                else:
                    if section.parts():
                        self.parted = turns if self.parted is None else self.parted
                    behind = (stage, section.picture()) if word != "end" else None
                    if behind is not None and behind not in self.known:
                        self.known.append(behind)
                        news.append(behind)
        return news
