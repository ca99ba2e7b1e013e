"""What turns cost, and calls that need not be done in each turn."""

from unknowncalls.alone import Watch, watch_alone
from unknowncalls.errors import BadWeight
from unknowncalls.fresh import free_names
from unknowncalls.loops import Loop
from unknowncalls.means import dearest_round
from unknowncalls.reading import placed
from unknowncalls.steps import steps_of, way_of
from unknowncalls.turns import Turns
from unknowncalls.words import as_integer, as_text


def turn_costs(loop, weights):
    """The least and the greatest cost of a turn."""
    watch = CostWatch(Weighing(loop, weights))
    watch_alone(loop, watch)
    return watch.least, watch.most


def dearest(loop, weights):
    """The greatest mean cost of an endless run as above and below, the surplus, and a lasso; None if all runs leave."""
    turns = DearTurns(Weighing(loop, weights))
    watch_alone(loop, turns)
    outs = [{number: worth for number, (worth, _) in behind.items()} for behind in turns.outs]
    found = dearest_round(outs, [number for number, depth in enumerate(turns.depths) if depth == 0])
    if found is None:
        return None
    above, below, surplus, around = found
    at = around.index(min(around))
    return above, below, surplus, turns.lasso(around[at:] + around[:at])


def hoisted(loop):
    """The loop whose start does the calls that give the same in each turn."""
    start, turn, end = [loop.section(word) for word in ("start", "turn", "end")]
    statements = [statement for _, statement in placed(("turn",), turn)]
    put = {statement[1]: True for statement in statements if statement[0] in ("put", "call", "do")}
    held = [*loop.names.constants, *[name for name in loop.lasting() if name not in put]]
    calls = {statement[2:]: True for statement in statements
             if statement[0] == "call" and all([source in held for source in statement[3:]])}
    names = free_names("l", loop.names, loop.registers(), len(calls))
    targets = dict(zip(calls, names))
    ahead = [("call", targets[call], *call) for call in targets]
    return Loop(loop.names, start + ahead, _with_puts(turn, targets), end)


class Weighing:
    """Costs of turns, by the weights of what is done in them."""

    def __init__(self, loop, weights):
        names = loop.names
        self._weights = {}
        for name, weight in weights.items():
            word, number = as_text(name), as_integer(weight)
            if word not in [*names.functions(), *names.tests(), *names.deeds(), "same"] or number is None:
                raise BadWeight(name)
            self._weights[word] = number
        self._steps = steps_of(loop)["turn"]
        self._costs = {}

    def cost(self, truths):
        """The cost of a turn with these answers."""
        way = tuple(truths)
        if way not in self._costs:
            self._costs[way] = sum([self._weights.get(step[3], 0) for step in way_of(self._steps, way)])
        return self._costs[way]


class DearTurns(Turns):
    """Turns that are worth what they cost."""

    def __init__(self, weighing):
        Turns.__init__(self)
        self._weighing = weighing

    def worth(self, run):
        """The cost of a turn."""
        return self._weighing.cost(run.told[0])


class CostWatch(Watch):
    """The least and the greatest cost of the turns that runs come to."""

    def __init__(self, weighing):
        self.least = None
        self.most = None
        self._weighing = weighing

    def passed(self, way, run, behind):
        """Keeps the cost of a turn ahead of which the loop has not left."""
        if way[1] is not None and not way[1][0][0]:
            cost = self._weighing.cost(run.told[0])
            self.least = cost if self.least is None else min(self.least, cost)
            self.most = cost if self.most is None else max(self.most, cost)


def _with_puts(statements, targets):
    """The statements with puts of registers for the calls whose values these hold."""
    found = []
    for statement in statements:
        if statement[0] == "call" and statement[2:] in targets:
            found.append(("put", statement[1], targets[statement[2:]]))
        elif statement[0] == "if":
            found.append(("if", statement[1], *[_with_puts(branch, targets) for branch in statement[2:]]))
        else:
            found.append(statement)
    return found
