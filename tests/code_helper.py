"""Code written by hand, in few words."""

import unittest

from upvalues.code import Code
from upvalues.errors import InvalidCode
from upvalues.judge import check_code

END = ("return", 0, 0, False)


def main(*parts, size=4, lives=None, lines=None, dots=False):
    """The main Code."""
    return part_of(*parts, size=size, lives=lives, lines=lines, dots=dots, upvalues=[("up", 0)])


def part_of(*parts, params=0, size=4, lives=None, lines=None, dots=False, upvalues=()):
    """A Code; all registers are live, and the lines are 1, 2 and so on, if nothing else is said."""
    many = len(parts)
    lives = [size] * many if lives is None else lives
    lines = [at % 400 + 1 for at in range(many)] if lines is None else lines
    return Code(params, dots, size, list(upvalues), list(parts), lines, lives)


def verdict(codes, act=check_code):
    """What InvalidCode tells of codes, or None."""
    try:
        act(codes)
    except InvalidCode as found:
        return found.function, found.at, found.word
    return None


class CodeCase(unittest.TestCase):
    maxDiff = None

    def refused(self, told, *codes):
        self.assertEqual(verdict(list(codes)), told)

    def word(self, told, *parts, at=None, **more):
        """Asks for the word that a main Code of these parts is refused by, and perhaps for the place."""
        found = verdict([main(*parts, **more)])
        self.assertEqual(found and found[2], told, parts)
        if found is not None:
            self.assertEqual(found[0], 0)
        if at is not None:
            self.assertEqual(found[1], at, parts)

    def passes(self, *parts, **more):
        self.assertIsNone(verdict([main(*parts, **more)]), parts)
