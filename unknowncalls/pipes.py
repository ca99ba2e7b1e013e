"""Loops put together: one that hands its deeds to another one, and one beside another one."""

from unknowncalls.errors import HasLeave, NoDeed, UnlikeNames, UsedResult
from unknowncalls.fresh import free_names
from unknowncalls.loops import Loop
from unknowncalls.reading import placed
from unknowncalls.words import as_text


def piped(one, other, deed):
    """The loop in which other reads what one hands to a deed."""
    if not one.names == other.names:
        raise UnlikeNames()
    word = as_text(deed)
    if one.names.deeds().get(word) != 1:
        raise NoDeed(deed)
    for place, statement in _statements(one):
        if statement[0] == "do" and statement[2] == word and statement[1] is not None:
            raise UsedResult(place)
    names = _new_names(one, other)
    flag = _flag(other, names[-2])
    renaming = dict(zip(other.registers(), names))
    turn = _guarded(_renamed(other.section("turn"), renaming), flag)
    start, middle, end = [_exchanged(one.section(part), word, turn) for part in ("start", "turn", "end")]
    ahead = _flag_puts([flag]) + _renamed(other.section("start"), renaming)
    return Loop(one.names, ahead + start, middle, end + _renamed(other.section("end"), renaming))


def beside(one, other):
    """The loop that does in each section what one does, then what other does."""
    if not one.names == other.names:
        raise UnlikeNames()
    names = _new_names(one, other)
    flags = [_flag(loop, name) for loop, name in zip((one, other), names[-2:])]
    renaming = dict(zip(other.registers(), names))
    start, turn, end = [_renamed(other.section(part), renaming) for part in ("start", "turn", "end")]
    return Loop(
        one.names,
        _flag_puts(flags) + one.section("start") + start,
        _guarded(one.section("turn"), flags[0]) + _guarded(turn, flags[1]),
        one.section("end") + end,
    )


def _statements(loop):
    """The pairs of a place and a statement of all sections."""
    return [pair for word in ("start", "turn", "end") for pair in placed((word,), loop.section(word))]


def _new_names(one, other):
    """Names for the registers of other, then for two flags."""
    return free_names("p", one.names, one.registers(), len(other.registers()) + 2)


def _flag(loop, name):
    """The register that holds whether a loop has left, with its values ahead and behind; None if it never does."""
    places = [place for place, statement in _statements(loop) if statement[0] == "leave"]
    if not places:
        return None
    if not loop.names.apart():
        raise HasLeave(places[0])
    ahead, behind = loop.names.apart()[0]
    return (name, ahead, behind)


def _flag_puts(flags):
    return [("put", flag[0], flag[1]) for flag in flags if flag is not None]


def _guarded(statements, flag):
    """The statements of a turn as one that is done until it has left, as its flag tells."""
    if flag is None:
        return list(statements)
    name, ahead, behind = flag
    return [("if", ("same", name, ahead), _without_leaves(statements, ("put", name, behind)), [])]


def _without_leaves(statements, put):
    """The same statements, with a put instead of each leave; what is never come to is left out."""
    found = []
    for index, statement in enumerate(statements):
        if statement[0] == "leave":
            return found + [put]
        if statement[0] == "if" and _can_leave(statement):
            # What follows is not done by the ways that leave: it goes into both branches.
            rest = list(statements[index + 1:])
            branches = [_without_leaves(list(branch) + rest, put) for branch in statement[2:]]
            return found + [("if", statement[1], branches[0], branches[1])]
        found.append(statement)
    return found


def _can_leave(statement):
    return any([inner[0] == "leave" for _, inner in placed((), [statement])])


def _renamed(statements, renaming):
    """The statements with other names for registers, or for the item."""
    return [_renamed_one(statement, renaming) for statement in statements]


def _renamed_one(statement, renaming):
    if statement[0] == "if":
        test, at = statement[1], 1 if statement[1][0] == "same" else 2
        sources = [renaming.get(source, source) for source in test[at:]]
        return ("if", (*test[:at], *sources), _renamed(statement[2], renaming), _renamed(statement[3], renaming))
    if statement[0] == "leave":
        return statement
    at = 2 if statement[0] == "put" else 3
    head = (statement[0], renaming.get(statement[1], statement[1]), *statement[2:at])
    return (*head, *[renaming.get(source, source) for source in statement[at:]])


def _exchanged(statements, deed, turn):
    """The statements with a turn in the place of each deed, which reads what is handed over."""
    found = []
    for statement in statements:
        if statement[0] == "do" and statement[2] == deed:
            found.extend(_renamed(turn, {"item": statement[3]}))
        elif statement[0] == "if":
            found.append(("if", statement[1], *[_exchanged(branch, deed, turn) for branch in statement[2:]]))
        else:
            found.append(statement)
    return found
