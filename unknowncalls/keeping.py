"""Values of calls kept in new registers, so that they need not be reckoned again."""

from unknowncalls.alone import read_place
from unknowncalls.errors import NoConstant, NoPlace
from unknowncalls.fresh import free_names
from unknowncalls.kept import KeptPair
from unknowncalls.loops import Loop
from unknowncalls.reading import placed
from unknowncalls.steps import SECTIONS
from unknowncalls.remedies import Trials


def keeping(loop, place):
    """The loop in which the value of a call is kept in a new register."""
    at = read_place(loop, place)
    if at not in _call_places(loop):
        raise NoPlace(place)
    if not loop.names.constants:
        raise NoConstant()
    name = free_names("k", loop.names, loop.registers(), 1)[0]
    start, turn, end = [_with_keep((word,), loop.section(word), at, name) for word in SECTIONS]
    return Loop(loop.names, [("put", name, loop.names.constants[0])] + start, turn, end)


def remedy(one, other):
    """The first list of as few calls as can be, by keeping whose values neither forgets; None for more than two."""
    trials = Trials(KeptPair(one, other))
    if trials.is_enough([]):
        return []
    if not one.names.constants:
        raise NoConstant()
    calls = [(side, place) for side, loop in ((1, one), (2, other)) for place in _call_places(loop)]
    for call in calls:
        if trials.is_worth([], call) and trials.is_enough([call]):
            return [call]
    for at, call in enumerate(calls):
        for later in calls[at + 1:]:
            if trials.is_worth_both(call, later) and trials.is_enough([call, later]):
                return [call, later]
    return None


def _call_places(loop):
    """The places of all calls, in their order."""
    pairs = [pair for word in SECTIONS for pair in placed((word,), loop.section(word))]
    return [place for place, statement in pairs if statement[0] == "call"]


def _with_keep(place, statements, kept, name):
    """The statements, behind the one at a place with a put of its value into a register."""
    found = []
    for index, statement in enumerate(statements):
        at = place + (index,)
        if statement[0] == "if":
            then = _with_keep(at + ("then",), statement[2], kept, name)
            found.append(("if", statement[1], then, _with_keep(at + ("else",), statement[3], kept, name)))
        else:
            found.append(statement)
        if at == kept:
            found.append(("put", name, statement[1]))
    return found
