"""Whether two loops are alike: all runs of both are gone through, picture by picture."""

from unknowncalls.errors import Forgotten, Parted
from unknowncalls.pictures import picture_behind, run_from
from unknowncalls.runs import Pair
from unknowncalls.tales import Tale


def parting(one, other):
    """A world, items and results over which both do unlike deeds, None if they are alike."""
    walk = _walked(one, other)
    if walk.parted is None:
        return None
    answers, is_ended = walk.parted
    world, items, results = Tale(one, other, answers, is_ended).world()
    return world, items, results if is_ended else results + [[]]


def alike(one, other):
    """Whether both do the same deeds in all worlds."""
    return _walked(one, other).parted is None


def forgetting(one, other):
    """The side, the place and the answers of a run that forgets, None if none does."""
    walk = Walk(Pair(one, other))
    walk.find_forgotten()
    return walk.forgotten


def table(one, other):
    """All pictures behind the start and behind turns."""
    walk = _walked(one, other)
    if walk.parted is not None:
        raise Parted()
    return walk.pictures()


def _walked(one, other):
    """The walk through all runs of both, at the end of which one parts, or none does."""
    walk = Walk(Pair(one, other))
    walk.find_parted()
    if walk.parted is None and walk.forgotten is not None:
        side, place, answers = walk.forgotten
        raise Forgotten(side, place, answers)
    return walk


class Walk:
    """All runs of a pair, section by section: those that come to the same picture go on as one."""

    def __init__(self, pair):
        self.parted = None
        self.forgotten = None
        self._pair = pair
        self._ways = {}

    def find_parted(self):
        """Goes on until a run parts, else through all runs."""
        self._go_through(True)

    def find_forgotten(self):
        """Goes on until a run forgets, else through all runs, also through those that part."""
        self._go_through(False)

    def pictures(self):
        """The pictures that runs have come to."""
        return list(self._ways)

    def _go_through(self, is_parting):
        # Fewer items come first, and with as many of them fewer sections.
        ahead = self._go_section([None], "start", is_parting)
        while ahead and not self._is_found(is_parting):
            self._go_section(ahead, "end", is_parting)
            if not self._is_found(is_parting):
                ahead = self._go_section([way for way in ahead if not all(way[0])], "turn", is_parting)

    def _is_found(self, is_parting):
        return (self.parted if is_parting else self.forgotten) is not None

    def _go_section(self, ahead, word, is_parting):
        """Goes through a section from all these pictures; returns the new ones behind it."""
        news = []
        for picture in ahead:
            for run in _section_runs(self._begun(picture, word)):
                if run.forgot is not None:
                    self._forget(picture, run)
                elif is_parting and run.is_parted():
                    self.parted = (self._answers(picture) + [run.told], word == "end")
                elif word != "end":
                    behind = picture_behind(run)
                    if behind not in self._ways:
                        self._ways[behind] = (picture, run.told)
                        news.append(behind)
                if self._is_found(is_parting):
                    return []
        return news

    def _begun(self, picture, word):
        run = self._pair.first_run() if picture is None else run_from(self._pair, picture)
        run.begin(word)
        return run

    def _forget(self, picture, run):
        if self.forgotten is None:
            self.forgotten = (run.side + 1, run.forgot, self._answers(picture) + [run.told])

    def _answers(self, picture):
        """What is answered on the way to a picture, as a new list of pairs of new lists."""
        answers = []
        while picture is not None:
            picture, told = self._ways[picture]
            answers.append((list(told[0]), list(told[1])))
        return answers[::-1]


def _section_runs(run):
    """All runs through a section that has begun: those that forget, and those that are done."""
    found = []
    ahead = [run]
    while ahead:
        run = ahead.pop()
        if run.go():
            ahead.extend(_answered(run))
        else:
            found.append(run)
    return found


def _answered(run):
    """The runs behind the question that a run has come to."""
    _, name, values = run.question()
    forced = run.known.forced(name, values)
    truths = [False, True] if forced is None else [forced]
    runs = [run.fork() for _ in truths[1:]] + [run]
    for fork, truth in zip(runs, truths):
        fork.answer(truth)
    return [fork for fork in runs if fork.known.is_possible]
