"""What several tests share."""

import unittest

from unknowncalls.errors import CallError, Forgotten
from unknowncalls.loops import Loop


class Case(unittest.TestCase):
    def raised(self, error, work, *told, **more):
        """The error that a call raises; it is just of this class."""
        with self.assertRaises(error) as caught:
            work(*told, **more)
        self.assertIs(caught.exception.__class__, error)
        self.assertEqual(error.__bases__, (CallError,))
        return caught.exception

    def forgets(self, work, *told, **more):
        error = self.raised(Forgotten, work, *told, **more)
        return error.side, error.place, error.answers


def maker(names):
    """Makes loops over these names."""
    def made(start=(), turn=(), end=()):
        return Loop(names, start, turn, end)
    return made


def put(register, source):
    return ("put", register, source)


def call(register, function, *sources):
    return ("call", register, function, *sources)


def do(deed, *sources):
    return ("do", None, deed, *sources)


def same(one, other, then=(), others=()):
    return ("if", ("same", one, other), then, others)


def ask(test, sources, then=(), others=()):
    return ("if", ("ask", test, *sources), then, others)


LEAVE = ("leave",)
