"""Whether two loops are alike: all runs of both are gone through, picture by picture."""

from unknowncalls.errors import Forgotten, Parted
from unknowncalls.runs import Pair
from unknowncalls.stories import Story
from unknowncalls.walking import Walk


def parting(one, other):
    """A world, items and results over which both do unlike deeds, None if they are alike."""
    pair = Pair(one, other)
    walk = _walked(pair)
    if walk.parted is None:
        return None
    story = Story(pair, walk.parted)
    world, items, results = story.world(story.run.known)
    is_ended = walk.parted[-1][0] == "end"
    return world, items[0], results if is_ended else results + [[]]


def alike(one, other):
    """Whether both do the same deeds in all worlds."""
    return _walked(Pair(one, other)).parted is None


def forgetting(one, other):
    """The side, the place and the answers of a run that forgets, None if none does."""
    walk = Walk(Pair(one, other))
    walk.find_forgotten()
    return walk.forgotten


def table(one, other):
    """All pictures behind the start and behind turns."""
    walk = _walked(Pair(one, other))
    if walk.parted is not None:
        raise Parted()
    return walk.pictures()


def _walked(pair):
    """The walk through all runs of a pair, at the end of which one parts, or none does."""
    walk = Walk(pair)
    walk.find_parted()
    if walk.parted is None and walk.forgotten is not None:
        side, place, answers = walk.forgotten
        raise Forgotten(side, place, answers)
    return walk
