"""The functions of the library that go through tables and values: next, pairs, ipairs, unpack, select."""

from upvalues.arguments import argument, check_argument, table_at, value_at, whole_at, whole_or
from upvalues.events import index_deed, length_deed, meta_of, shaped
from upvalues.frames import LibraryFrame
from upvalues.ints import wrapped
from upvalues.numbers import is_number, whole_of
from upvalues.objects import Thrown

MOST_UNPACKED = 250
PAIRS_RESULTS = 3


def do_next(run, args):
    """next(t, k)"""
    table = table_at(args, 1, "next")
    found = table.next_after(argument(args, 2))
    run.give([None] if found is None else list(found))


class Pairing(LibraryFrame):
    """A call of pairs that waits for the event."""

    def __init__(self):
        LibraryFrame.__init__(self)
        self.results = None

    def take(self, values):
        """Takes the results of the event."""
        self.results = values[:PAIRS_RESULTS]

    def do_step(self, run):
        """Ends the call."""
        self.end_with(run, self.results + [None] * (PAIRS_RESULTS - len(self.results)))


def do_pairs(run, args):
    """pairs(x)"""
    value = value_at(args, 1, "pairs")
    event = meta_of(value, "__pairs")
    if event is None:
        run.give([run.natives["next"], value, None])
    else:
        call = Pairing()
        call.ask(run, event, [value])


def do_ipairs(run, args):
    """ipairs(x)"""
    run.give([run.natives["ipairs step"], value_at(args, 1, "ipairs"), 0])


class Stepping(LibraryFrame):
    """A call of the function of ipairs."""

    HOLDS_YIELD = True

    def __init__(self, at, deed):
        LibraryFrame.__init__(self)
        self.at = at
        self.deed = deed

    def take(self, values):
        """Takes the results of the event."""
        self.deed = ("value", shaped(values, self.deed[3]))

    def do_step(self, run):
        """Ends the call, or lets an event be called first."""
        if self.deed[0] == "call":
            self.ask(run, self.deed[1], self.deed[2])
        elif self.deed[1] is None:
            self.end_with(run, [None])
        else:
            self.end_with(run, [self.at, self.deed[1]])


def do_ipairs_step(run, args):
    """The function of ipairs"""
    value = value_at(args, 1, "for iterator")
    at = wrapped(whole_at(args, 2, "for iterator") + 1)
    call = Stepping(at, index_deed(value, at))
    call.do_step(run)


class Unpacking(LibraryFrame):
    """A call of unpack: asks for the length if it must, then reads one value after another."""

    HOLDS_YIELD = True

    def __init__(self, value, first, last):
        LibraryFrame.__init__(self)
        self.value = value
        self.at = first
        # None as long as it is the length, which is not known yet.
        self.last = last
        self.length = None
        self.results = []

    def live(self):
        """The values that were read, and the one that is read if more is to be read of it."""
        if self.last is not None and self.at > self.last:
            return list(self.results)
        return self.results + [self.value]

    def take(self, values):
        """Takes the results of an event."""
        found = shaped(values, "one")
        if self.last is None:
            self.length = ("value", found)
        else:
            self.results.append(found)

    def do_step(self, run):
        """Goes on to the next call of an event, or to the end of the call."""
        if self.last is None:
            if self.length is None:
                self.length = length_deed(self.value)
            if self.length[0] == "call":
                self.ask(run, self.length[1], self.length[2])
                return
            self.last = last_of(self.length[1])
        if self.last - self.at + len(self.results) >= MOST_UNPACKED:
            raise Thrown("too many results to unpack")
        self.read_on(run)

    def read_on(self, run):
        """Reads values up to one that an event gives; behind the last one the call ends."""
        while self.at <= self.last:
            deed = index_deed(self.value, self.at)
            self.at += 1
            if deed[0] == "call":
                self.ask(run, deed[1], deed[2])
                return
            self.results.append(deed[1])
        self.end_with(run, self.results)


def last_of(length):
    """The last index of what has a length."""
    last = whole_of(length) if is_number(length) else None
    if last is None:
        raise Thrown("object length is not an integer")
    return last


def do_unpack(run, args):
    """unpack(x, i = 1, j)"""
    value = value_at(args, 1, "unpack")
    first = whole_or(args, 2, "unpack", 1)
    last = whole_or(args, 3, "unpack", None)
    call = Unpacking(value, first, last)
    call.do_step(run)


def do_select(run, args):
    """select(n, ..)"""
    many = len(args) - 1
    if argument(args, 1) == "#":
        run.give([many])
        return
    number = whole_at(args, 1, "select")
    if number < 0:
        number = many + 1 + number
    check_argument(number > 0, 1, "select", "index out of range")
    run.give(args[number:])
