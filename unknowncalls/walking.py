"""Walks through all runs of two loops, section by section."""

from unknowncalls.pictures import picture_behind, run_from
from unknowncalls.readings import PLANS


class Walk:
    """All runs of a pair by a plan: those that come to the same picture in the same phase go on as one.

    A watch is told of all that runs come to. Pictures are told with the phase that they are in.
    """

    def __init__(self, pair, plan="alike", watch=None):
        self.parted = None
        self.forgotten = None
        self._pair = pair
        self._plan = PLANS[plan]
        self._watch = watch
        self._is_parting = False
        self._ways = {}

    def find_parted(self):
        """Goes on until a run parts, else through all runs."""
        self._is_parting = True
        self._go_through()

    def find_forgotten(self):
        """Goes on until a run forgets, else through all runs, also through those that part."""
        self._go_through()

    def pictures(self):
        """The pictures that runs have come to."""
        return [picture for _, picture in self._ways]

    def _go_through(self):
        # Fewer items come first, and with as many of them fewer sections.
        last = len(self._plan) - 1
        ahead = self._go_section([(0, None)], "start")
        while ahead and not self._is_found():
            self._go_section([way for way in ahead if way[0] == last], "end")
            if not self._is_found():
                ahead = self._go_section([way for way in ahead if way[0] < last or not all(way[1][0])], "turn")

    def _is_found(self):
        return (self.parted if self._is_parting else self.forgotten) is not None

    def _go_section(self, ahead, word):
        """Goes through a section from all these pictures; returns the new ones behind it."""
        news = []
        for way in ahead:
            moves = self._plan[way[0]] if word == "turn" else (("together", way[0]),)
            for reading, phase in moves:
                news.extend(self._go_on(way, word, reading, phase))
                if self._is_found():
                    return []
        return news

    def _go_on(self, way, word, reading, phase):
        """Goes through a section from one picture; returns the new ones behind it."""
        news = []
        for run in self._section_runs(way[1], word, reading):
            if run.forgot is not None:
                self._forget(way, run)
            elif self._is_parting and run.is_parted():
                self.parted = self._rows(way) + [(word, reading, run.told)]
            elif word != "end":
                behind = (phase, picture_behind(run))
                if behind not in self._ways:
                    self._ways[behind] = (way, (word, reading, run.told))
                    news.append(behind)
                if self._watch is not None:
                    self._watch.passed(way, run, behind)
            if self._is_found():
                return []
        return news

    def _section_runs(self, picture, word, reading):
        """All runs through a section: those that forget, and those that are done."""
        run = self._pair.first_run() if picture is None else run_from(self._pair, picture)
        run.watch = self._watch
        run.begin(word, reading)
        found = []
        ahead = [run]
        while ahead:
            run = ahead.pop()
            if run.go():
                ahead.extend(self._answered(run))
            else:
                found.append(run)
        return found

    def _answered(self, run):
        """The runs behind the question that a run has come to."""
        place, name, values = run.question()
        forced = run.known.forced(name, values)
        truths = [False, True] if forced is None else [forced]
        forks = [run.fork() for _ in truths[1:]] + [run]
        for fork, truth in zip(forks, truths):
            fork.answer(truth)
        if self._watch is not None:
            self._watch.answered(place, [truth for fork, truth in zip(forks, truths) if fork.known.is_possible])
        return [fork for fork in forks if fork.known.is_possible]

    def _forget(self, way, run):
        if self.forgotten is None:
            answers = [(list(told[0]), list(told[1])) for _, _, told in self._rows(way)]
            self.forgotten = (run.side + 1, run.forgot, answers + [run.told])

    def _rows(self, way):
        """The word, the reading and what is answered of each section on the way to a picture."""
        rows = []
        while way[1] is not None:
            way, row = self._ways[way]
            rows.append(row)
        return rows[::-1]
