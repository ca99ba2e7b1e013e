"""Worlds of as few things as can be, in which a run goes as it is told."""

from unknowncalls.errors import TooMany

MOST = 7


def least_world(tale):
    """A world with as few things as can be, in which the run parts in the same section, with items and results."""
    groups = tale.groups()
    if len(groups) > MOST:
        raise TooMany(len(groups))
    leads = [group[0] for group in groups]
    section = tale.parts()
    for many in range(1, len(groups)):
        known = _put_together(tale, section, tale.trial(), leads, [], many)
        if known is not None:
            return tale.world_by(known)
    return tale.world()


def _put_together(tale, section, known, leads, things, many):
    """What is known when each of these leaders is one of so many things, and the run parts in this section.

    things are leaders that are unlike things already. None if there is no such way.
    """
    if not leads:
        return known if tale.parts_by(known) == section else None
    lead, rest = leads[0], leads[1:]
    for thing in things:
        trial = known.fork()
        trial.make_equal(thing, lead)
        found = _put_together(tale, section, trial, rest, things, many) if trial.is_possible else None
        if found is not None:
            return found
    if len(things) == many:
        return None
    return _put_together(tale, section, known, rest, things + [lead], many)
