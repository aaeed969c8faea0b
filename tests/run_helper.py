"""What tests of runs share: a program as a text, run by both engines, with the log and the end that it must have."""

import re
import unittest

from lua_text import program_of, read
from upvalues.errors import LimitExceeded
from upvalues.runs import outcome

ENGINES = ("walker", "machine")


def filled_in(thing, lines):
    """A thing in which @word stands for the line with this name."""
    if isinstance(thing, str):
        return re.sub(r"@(\w+)", lambda one: str(lines[one.group(1)]), thing)
    if isinstance(thing, (list, tuple)):
        return type(thing)(filled_in(part, lines) for part in thing)
    return thing


class RunCase(unittest.TestCase):
    """Rows of a log are written as texts, with | between what print was called with."""

    maxDiff = None

    def run_text(self, text, work=10 ** 5):
        """The Outcome of a text, by both engines."""
        program, lines = read(text)
        found = [outcome(program, engine=engine, work=work) for engine in ENGINES]
        self.assertEqual((found[0].end, found[0].log, found[0].work), (found[1].end, found[1].log, found[1].work))
        self.assertTrue(found[0] == found[1])
        return found[0], lines

    def check(self, text, log=(), end=(), work=None, bound=10 ** 5):
        """Runs a text; end is a list of results, or a tuple with the value that is thrown."""
        found, lines = self.run_text(text, bound)
        self.assertEqual(["|".join(row) for row in found.log], filled_in(list(log), lines))
        if isinstance(end, list):
            self.assertEqual(found.end, ("done", filled_in(end, lines)))
        elif end:
            self.assertEqual(found.end, ("error", filled_in(end[0], lines)))
        else:
            self.assertEqual(found.end, ("done", []))
        if work is not None:
            self.assertEqual(found.work, work)

    def check_values(self, text, *values):
        """Runs a text that returns values, and compares their kinds, too."""
        found, lines = self.run_text(text)
        self.assertEqual(found.end, ("done", filled_in(list(values), lines)))
        self.assertEqual([type(value) for value in found.end[1]], [type(value) for value in values])

    def check_error(self, text, value):
        """Runs a text that ends with an error."""
        found, lines = self.run_text(text)
        self.assertEqual(found.end, ("error", filled_in(value, lines)))

    def check_work(self, text, work):
        """Runs a text with just enough work, and with one piece less."""
        found, _ = self.run_text(text)
        self.assertEqual(found.work, work)
        self.run_text(text, work)
        for engine in ENGINES:
            with self.assertRaises(LimitExceeded) as caught:
                outcome(program_of(text), engine=engine, work=work - 1)
            self.assertEqual(caught.exception.limit, work - 1)
