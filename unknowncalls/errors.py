"""The errors of the package: one class for each thing that can be wrong."""


class CallError(ValueError):
    """Base of all errors of the package."""


class BadName(CallError):
    """What is no name, or stood before."""

    def __init__(self, name):
        self.name = name


class BadNumber(CallError):
    """A name whose number of values cannot be."""

    def __init__(self, name):
        self.name = name


class BadRule(CallError):
    """A name that has no such rule."""

    def __init__(self, name):
        self.name = name


class BadFact(CallError):
    """The first thing that is no fact."""

    def __init__(self, index):
        self.index = index


class BadPair(CallError):
    """The first thing that is no pair of two constants."""

    def __init__(self, index):
        self.index = index


class NoWorld(CallError):
    """No world has all that is told."""


class BadStatement(CallError):
    """The place of the first thing that is no statement."""

    def __init__(self, place):
        self.place = place


class NoSection(CallError):
    """What is no word of a section."""

    def __init__(self, word):
        self.word = word


class UnlikeNames(CallError):
    """Names that have to be equal are not."""


class Parted(CallError):
    """Two loops that have to be alike are not."""


class Forgotten(CallError):
    """Where a run forgets, and the answers up to there."""

    def __init__(self, side, place, answers):
        self.side = side
        self.place = place
        self.answers = answers


class BadWorld(CallError):
    """The first part of a world that is wrong."""

    def __init__(self, word):
        self.word = word


class NoName(CallError):
    """What is none of the names that are asked for."""

    def __init__(self, name):
        self.name = name


class NoThings(CallError):
    """What is no list of as many things of the world."""

    def __init__(self, things):
        self.things = things


class NoThing(CallError):
    """The first item that is no thing of the world."""

    def __init__(self, index):
        self.index = index


class BadResults(CallError):
    """The first section whose results are no list of things."""

    def __init__(self, index):
        self.index = index


class BadAnswers(CallError):
    """The first section whose answers are wrong."""

    def __init__(self, index):
        self.index = index


class Impossible(CallError):
    """The first answer that no world gives."""

    def __init__(self, index, side, at):
        self.index = index
        self.side = side
        self.at = at


class NoValue(CallError):
    """What is no number of a value."""

    def __init__(self, thing):
        self.thing = thing


class NoRegister(CallError):
    """What is no lasting register of this side."""

    def __init__(self, side, name):
        self.side = side
        self.name = name


class BadSide(CallError):
    """What is no side, neither 1 nor 2."""

    def __init__(self, side):
        self.side = side


class TooMany(CallError):
    """More groups than can be gone through."""

    def __init__(self, total):
        self.total = total


class NoPlace(CallError):
    """What is no place of the kind that is asked for."""

    def __init__(self, place):
        self.place = place


class NoConstant(CallError):
    """There is no constant to begin with."""


class BadTruth(CallError):
    """What is no truth value."""

    def __init__(self, truth):
        self.truth = truth


class NoQuestion(CallError):
    """No answer is wanted here."""


class Unanswered(CallError):
    """An answer is wanted first."""


class IsOver(CallError):
    """The end is done already."""


class HasDeeds(CallError):
    """The first place of a deed where there may be none."""

    def __init__(self, place):
        self.place = place


class NoTest(CallError):
    """What is no test of the kind that is asked for."""

    def __init__(self, name):
        self.name = name


class NoDeed(CallError):
    """What is no deed of one value."""

    def __init__(self, name):
        self.name = name


class UsedResult(CallError):
    """The first place at which a result is kept that will not come."""

    def __init__(self, place):
        self.place = place


class HasLeave(CallError):
    """The first place of a leave that cannot be held."""

    def __init__(self, place):
        self.place = place


class BadLine(CallError):
    """The first line that cannot stand there."""

    def __init__(self, index):
        self.index = index


class BadMachine(CallError):
    """What is no machine of a world with as many things."""

    def __init__(self, machine):
        self.machine = machine


class BadBlock(CallError):
    """The first thing that is no block."""

    def __init__(self, index):
        self.index = index


class BadWeight(CallError):
    """A name that has no such weight."""

    def __init__(self, name):
        self.name = name


class NoNumber(CallError):
    """What is no integer from 0 on."""

    def __init__(self, n):
        self.n = n
