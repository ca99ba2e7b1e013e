"""A loop alone: all its runs beside nothing, and what a watch is told of them."""

from unknowncalls.errors import Forgotten, NoPlace
from unknowncalls.loops import Loop
from unknowncalls.runs import Pair
from unknowncalls.walking import Walk
from unknowncalls.words import as_integer, as_list, as_text


class Watch:
    """What is told of all runs of a walk; a watch of its own tells what it makes of it."""

    def come(self, run, step):
        """A run has come to a step, and has not done it yet."""

    def answered(self, place, truths):
        """A run has come to an if, and these are the answers that are not impossible."""

    def passed(self, way, run, behind):
        """A run has done a section from the one picture to the other."""


def watch_alone(loop, watch):
    """Tells a watch of all runs of a loop alone."""
    walk = Walk(Pair(loop, Loop(loop.names, [], [], [])), "alike", watch)
    walk.find_forgotten()
    if walk.forgotten is not None:
        side, place, answers = walk.forgotten
        raise Forgotten(side, place, answers)


def read_place(loop, place):
    """The thing as a place of a loop."""
    parts = as_list(place)
    if parts is None:
        raise NoPlace(place)
    words = tuple([as_text(part) if isinstance(part, str) else as_integer(part) for part in parts])
    if words not in loop.places():
        raise NoPlace(place)
    return words
