"""Loops run in a world, over lists of its things."""

from unknowncalls.doing import Doing
from unknowncalls.errors import BadResults, NoThing
from unknowncalls.words import as_below, as_list


def trace(loop, world, items, results=()):
    """What a loop does, section by section: pairs of a place and what its statement gives."""
    return [rows for rows, _ in _sections(loop, world, items, results)]


def deeds(loop, world, items, results=()):
    """The deeds that a loop does, section by section."""
    return [done for _, done in _sections(loop, world, items, results)]


def _sections(loop, world, items, results):
    """For each section what is done step by step, and the deeds."""
    doing = Doing(loop, world)
    things = _read_items(world, items)
    given = _read_results(world, results, len(things) + 2)
    state, found = None, []
    for number, (word, item) in enumerate([("start", None), *[("turn", thing) for thing in things], ("end", None)]):
        row = given[number] if number < len(given) else []
        rows, done, state = doing.section(word, state, item, row)
        found.append((rows, done))
    return found


def _read_items(world, items):
    things = [as_below(thing, world.size) for thing in items]
    if None in things:
        raise NoThing(things.index(None))
    return things


def _read_results(world, results, many):
    """The lists of things that are given to the deeds of each section."""
    given = []
    for index, thing in enumerate(results):
        things = as_list(thing)
        row = None if things is None else [as_below(part, world.size) for part in things]
        if row is None or None in row:
            raise BadResults(index)
        given.append(row)
    if len(given) > many:
        raise BadResults(many)
    return given
