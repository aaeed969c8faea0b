"""Frames: calls that go on. What all frames share, those of programs, and those that catch what is thrown.

The thread's topmost frame is asked for one step after another. A step may ask the run for a call; then
take is told the results, or the frame is taken away by what is thrown.
"""

from upvalues.events import is_closable, meta_of
from upvalues.objects import Thrown, is_true, told


class Frame:
    """A call that goes on."""

    # Whether what is thrown ends here, and whether no yield goes out of here.
    CATCHES = False
    HOLDS_YIELD = False

    def __init__(self):
        # The values to be closed, the last one first.
        self.pending = []

    def line_told(self):
        """The line that is told with errors; None for a function of the library."""
        return None

    def live(self):
        """The values that the frame holds, but for those that are pending."""
        return []


class ProgramFrame(Frame):
    """A call of a function of a program."""

    def __init__(self, closure, dots):
        Frame.__init__(self)
        self.closure = closure
        self.dots = dots
        # For each pending value the variable or register that it is pending for.
        self.slots = []

    def begin_pending(self, slot, value):
        """Lets a value be pending for a slot, if it is not nil or false."""
        if not is_closable(value):
            raise Thrown("variable got a non-closable value")
        if is_true(value):
            self.pending.append(value)
            self.slots.append(slot)

    def has_pending(self, floor):
        """Whether a value is pending for a slot from floor on."""
        return len(self.slots) > 0 and self.slots[-1] >= floor

    def close_last(self, run):
        """Closes the last pending value."""
        self.slots.pop()
        run.close(self.pending.pop(), None)


class LibraryFrame(Frame):
    """A call of a function of the library, which is a frame from its first call of something on."""

    def __init__(self):
        Frame.__init__(self)
        self.is_entered = False

    def ask(self, run, called, given):
        """Calls something; the first time the frame is entered ahead of it."""
        if not self.is_entered:
            run.push(self)
            self.is_entered = True
        run.call(called, given)

    def end_with(self, run, results):
        """Ends the call with its results."""
        if self.is_entered:
            run.leave(results)
        else:
            run.give(results)


class Catcher(Frame):
    """A frame that catches what is thrown, and closes what was pending above it."""

    CATCHES = True

    def __init__(self):
        Frame.__init__(self)
        self.has_caught = False
        self.error = None

    def catch(self, value):
        """Notes what is thrown, in the place of what was thrown before."""
        self.has_caught = True
        self.error = value

    def take(self, values):
        """Drops the results of a closer."""

    def live(self):
        """What was thrown."""
        return [self.error]

    def close_next(self, run):
        """Closes the last pending value, and tells whether there was one."""
        if len(self.pending) == 0:
            return False
        run.close(self.pending.pop(), self.error)
        return True


class ProtectedCall(Catcher):
    """A call of pcall."""

    def __init__(self, called, given):
        Catcher.__init__(self)
        self.wanted = (called, given)
        self.results = None

    def take(self, values):
        """Notes the results of what was called, and drops those of closers."""
        self.results = values

    def do_step(self, run):
        """Calls what is to be called, then gives its results, or what was thrown when all is closed."""
        if self.wanted is not None:
            called, given = self.wanted
            self.wanted = None
            run.call(called, given)
        elif not self.has_caught:
            run.leave([True] + self.results)
        elif not self.close_next(run):
            run.leave([False, self.error])


class ClosingCall(Catcher):
    """A call of close, or of a function of wrap whose thread died: closes what a thread had pending."""

    HOLDS_YIELD = True

    def __init__(self, thread, is_wrapped):
        Catcher.__init__(self)
        self.is_wrapped = is_wrapped
        self.has_caught = thread.has_failed
        self.error = thread.error
        self.pending = thread.pending
        thread.forget()

    def do_step(self, run):
        """Closes the next value; behind the last one tells the error, if there is one."""
        if self.close_next(run):
            return
        if self.is_wrapped:
            run.drop_frame()
            run.throw(run.with_line(self.error, 1))
        elif self.has_caught:
            run.leave([False, self.error])
        else:
            run.leave([True])


class Finisher(Catcher):
    """A frame that finishes tables, one after another."""

    HOLDS_YIELD = True

    def __init__(self, tables):
        Catcher.__init__(self)
        self.tables = tables

    def live(self):
        """What was thrown, and the tables that are still to be finished."""
        return [self.error] + self.tables

    def finish_next(self, run):
        """Goes on with the next call of a closer or of a table's event, and tells whether there was one."""
        if self.close_next(run):
            return True
        self.error = None
        while self.tables:
            table = self.tables.pop(0)
            event = meta_of(table, "__gc")
            if event is not None:
                run.call(event, [table])
                return True
        return False


class Collecting(Finisher):
    """A call of collect that finishes tables."""

    def do_step(self, run):
        """Finishes the next table; the call ends behind the last one."""
        if not self.finish_next(run):
            run.is_finishing = False
            run.leave([])


class Bottom(Finisher):
    """The bottom of the main thread."""

    def __init__(self, main):
        Finisher.__init__(self, [])
        self.main = main
        self.results = None
        self.end = None

    def take(self, values):
        """Notes the results of the main function, and drops all others."""
        if self.results is None:
            self.results = values

    def do_step(self, run):
        """Calls the main function; when it has ended and all is closed, finishes the tables, and ends the run."""
        if self.main is not None:
            main = self.main
            self.main = None
            run.call(main, [])
        elif self.end is None:
            self.go_to_end(run)
        elif not self.finish_next(run):
            run.end = self.end

    def go_to_end(self, run):
        """Closes what the main function has left behind an error; then the end is known."""
        if not self.has_caught:
            self.end = ("done", [told(value) for value in self.results])
        elif self.close_next(run):
            return
        else:
            self.end = ("error", told(self.error))
        self.tables = run.last_marked()
