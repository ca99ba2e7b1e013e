"""Two runs of one loop over lists that are not quite the same: whether the deeds tell them apart."""

from unknowncalls.errors import Forgotten, HasDeeds, NoTest
from unknowncalls.reading import placed
from unknowncalls.runs import Pair
from unknowncalls.stories import Story
from unknowncalls.walking import Walk
from unknowncalls.words import as_text


def exchanged(loop):
    """What tells apart two lists, in one of which two items stand the other way about; None if nothing does."""
    return _edited(loop, "exchanged", None)


def doubled(loop):
    """What tells apart two lists, in one of which an item comes twice in a row; None if nothing does."""
    return _edited(loop, "doubled", None)


def dropped(loop, test):
    """What tells apart two lists, one of which lacks an item of which a test says yes; None if nothing does."""
    return _edited(loop, "dropped", _read_test(loop, test))


def leaks(loop, test):
    """What tells apart two lists with unlike items of which a test says yes; None if nothing does."""
    return _parted(loop, "leaks", _read_test(loop, test))


def _read_test(loop, test):
    word = as_text(test)
    if loop.names.tests().get(word) != 1:
        raise NoTest(test)
    return word


def _edited(loop, plan, test):
    """A world, both lists, and the results of the start and of the end, if the ends part."""
    for place, statement in placed(("turn",), loop.section("turn")):
        if statement[0] == "do":
            raise HasDeeds(place)
    told = _parted(loop, plan, test)
    if told is None:
        return None
    world, items, others, results = told
    return world, items, others, [results[0], results[-1]]


def _parted(loop, plan, test):
    """A world, both lists and the results of all sections up to the one that parts, None if none does."""
    pair = Pair(loop, loop, test)
    walk = Walk(pair, plan)
    walk.find_parted()
    if walk.parted is not None:
        story = Story(pair, walk.parted)
        world, items, results = story.world(story.run.known)
        return world, items[0], items[1], results
    if walk.forgotten is not None:
        side, place, answers = walk.forgotten
        raise Forgotten(side, place, answers)
    return None
