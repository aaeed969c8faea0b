"""[38], [67]: what is live in each frame at each call, by both engines, against a walker of the tests that works in another way."""

import sys
import unittest

from model_walker import run_program
from program_maker import made_programs
from upvalues import objects
from upvalues.compiler import compile_program
from upvalues.errors import LimitExceeded
from upvalues.frames import ProtectedCall
from upvalues.machine import Machine
from upvalues.numbers import Float
from upvalues.numerals import text_of
from upvalues.objects import Closure, Native, Thrown
from upvalues.running import MOST_FRAMES, Run
from upvalues.tables import Table
from upvalues.walker import Walker

EVENTS = "index newindex add sub mul div idiv mod band bor bxor shl shr unm bnot concat len eq lt le call close".split()
sys.setrecursionlimit(max(sys.getrecursionlimit(), 20000))


def told(value):
    """A value as model_runs tells it."""
    return ("float", text_of(value)) if isinstance(value, Float) else objects.told(value)


class Probed:
    """A run whose library is that of model_runs: it tells what is live, and makes objects with all events."""

    def __init__(self, engine, work):
        self.run = run = Run(engine, work)
        run.globals = run.new_table(0, 0)
        self.full = run.new_table(0, 0)
        for word in EVENTS:
            self.full.put("__" + word, Native(word, lambda run, args, word=word: self.event(word, args)))
        for word, act in (("probe", self.probe), ("obj", lambda run, args: run.give([self.new()])), ("setmt", self.set_meta), ("fail", self.fail),
                          ("pcall", self.protected)):
            run.globals.put(word, Native(word, act))
        unknown = run.new_table(0, 0)
        unknown.put("__index", Native("unknown", lambda run, args: run.give([self.new()])))
        run.globals.meta = unknown

    def ended(self):
        try:
            self.run.go()
        except LimitExceeded:
            return ["out of work"], self.run.log, self.run.work
        word, found = self.run.end
        found = [word == "done"] + (found if word == "done" else [found])
        return [told(value) for value in found], self.run.log, self.run.work

    def new(self):
        found = self.run.new_table(0, 0)
        found.meta = self.full
        return found

    def tell(self, word, args):
        rows = []
        for frame in self.run.thread.frames:
            found = {told(value) for value in frame.live() + frame.pending if isinstance(value, (Table, Closure))}
            rows.append((frame.line_told(), sorted(found), [told(value) for value in frame.pending]))
        self.run.log.append((word, [told(value) for value in args], self.run.work, rows))

    def event(self, word, args):
        self.tell(word, args)
        turn = len(self.run.log)
        if word == "close":
            if turn % 7 == 0:
                raise Thrown(f"closer {turn}")
            found = []
        elif word in ("eq", "lt", "le"):
            found = [turn % 2 == 0]
        elif word == "call":
            found = [self.new() if turn % 3 else None, turn, args[-1]][:turn % 4]
        elif word == "len":
            found = [3]
        else:
            found = [self.new() if turn % 4 else turn]
        self.run.give(found)

    def probe(self, run, args):
        self.tell("probe", args)
        run.give(list(args))

    def set_meta(self, run, args):
        if len(args) < 2 or not isinstance(args[0], Table) or not (args[1] is None or isinstance(args[1], Table)):
            raise Thrown("bad argument")
        args[0].meta = args[1]
        run.give(args[:1])

    def fail(self, run, args):
        value = args[0] if args else None
        if isinstance(value, str):
            raise Thrown(value)
        run.throw(value)

    def protected(self, run, args):
        if not args:
            raise Thrown("value expected")
        run.push(ProtectedCall(args[0], args[1:]))


class LiveValuesTest(unittest.TestCase):
    def test_many_programs(self):
        rows = 0
        for seed, program in made_programs(250, 90000):
            # The model has one frame more below the main function.
            end, log, work = run_program(program, 600, depth=MOST_FRAMES + 1)
            log = [row if isinstance(row, str) else row[:3] + (row[3][1:],) for row in log]
            for engine in (Walker(program), Machine(compile_program(program))):
                found = Probed(engine, 600).ended()
                self.assertEqual(found[0], end, seed)
                self.assertEqual(found[1], log, seed)
                self.assertEqual(found[2], work, seed)
            rows += len(log)
        self.assertGreater(rows, 2000)


if __name__ == "__main__":
    unittest.main()
