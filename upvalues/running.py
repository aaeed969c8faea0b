"""A run: its work, its log, its objects, and the threads that go on by turns."""

from upvalues.errors import LimitExceeded
from upvalues.events import call_target, meta_of
from upvalues.frames import Bottom, ClosingCall, Collecting
from upvalues.memory import swept
from upvalues.objects import Cell, Closure, Native, Resumer, Thread, Thrown
from upvalues.tables import Table

MOST_FRAMES = 180
MOST_RESUMES = 180


class Run:
    """A run of one program by one engine.

    What is to be done next is noted in wanted: a word, and what belongs to it. While nothing is, the
    topmost frame of the running thread does its next step. So no call of the program is one of Python.
    """

    def __init__(self, engine, bound):
        self.engine = engine
        self.bound = bound
        self.work = 0
        self.log = []
        self.end = None
        self.wanted = None
        self.many_tables = 0
        self.many_functions = 0
        self.many_threads = 0
        # The marked tables, the last one last; None when nothing is marked any more.
        self.marked = {}
        self.is_finishing = False
        # The table of globals, and all functions of the library, which come from the library itself.
        self.globals = None
        self.natives = {}
        main = self.new_thread(None)
        main.status = "running"
        self.main = main
        self.thread = main

    # Objects.

    def new_native(self, name, act):
        """A new function of the library."""
        self.natives[name] = Native(name, act)
        return self.natives[name]

    def new_table(self, places, nodes):
        """A new table with room for so much."""
        self.many_tables += 1
        return Table(self.many_tables - 1, places, nodes)

    def new_closure(self, body, cells):
        """A new function of the program."""
        self.many_functions += 1
        return Closure(self.many_functions - 1, body, cells)

    def new_thread(self, called):
        """A new thread, in which something is called when it is resumed for the first time."""
        self.many_threads += 1
        return Thread(self.many_threads - 1, called)

    def new_resumer(self, thread):
        """A new function that resumes a thread."""
        self.many_functions += 1
        return Resumer(self.many_functions - 1, thread)

    # What comes next.

    def call(self, called, given):
        """Lets something be called; its results are told to the topmost frame."""
        self.wanted = ("call", called, given)

    def tail(self, called, given):
        """Lets something be called; a function of the program takes the place of the topmost frame."""
        self.wanted = ("tail", called, given)

    def close(self, value, error):
        """Lets a value be closed that is pending no more."""
        event = meta_of(value, "__close")
        self.call(value if event is None else event, [value, error])

    def give(self, values):
        """Lets values be told to the topmost frame, as the results of what it called."""
        self.wanted = ("give", values)

    def leave(self, values):
        """Ends the topmost frame with its results."""
        self.drop_frame()
        self.give(values)

    def throw(self, value):
        """Lets a value be thrown."""
        self.wanted = ("throw", value)

    # The run.

    def go(self):
        """Goes on to the end of the run."""
        main = self.new_closure(self.engine.main, [Cell(self.globals)])
        self.thread.frames.append(Bottom(main))
        while self.end is None:
            try:
                self.go_on()
            except Thrown as error:
                self.throw(self.with_line(error.value, 1))

    def go_on(self):
        """Goes on to the end of the run, or to an error of the language."""
        while self.end is None:
            wanted = self.wanted
            self.wanted = None
            if wanted is None:
                frame = self.thread.frames[-1]
                frame.do_step(self)
            elif wanted[0] == "give":
                self.do_give(wanted[1])
            elif wanted[0] == "call":
                self.do_call(wanted[1], wanted[2])
            elif wanted[0] == "tail":
                self.do_tail(wanted[1], wanted[2])
            else:
                self.do_throw(wanted[1])

    def count_work(self):
        """Counts a piece of work."""
        if self.work == self.bound:
            raise LimitExceeded(self.bound)
        self.work += 1

    def do_call(self, called, given):
        """Calls something."""
        called, given = call_target(called, given)
        self.count_work()
        if isinstance(called, Closure):
            self.push(self.engine.frame(called, given))
        else:
            self.do_native(called, given)

    def do_tail(self, called, given):
        """Calls something in the place of the topmost frame."""
        called, given = call_target(called, given)
        self.count_work()
        if isinstance(called, Closure):
            self.thread.frames[-1] = self.engine.frame(called, given)
        else:
            self.do_native(called, given)

    def do_native(self, called, given):
        """Calls a function of the library, or one of wrap."""
        if isinstance(called, Resumer):
            self.resume(called.thread, given, True)
        else:
            act = called.act
            act(self, given)

    def do_give(self, values):
        """Tells values to the topmost frame; without one the thread has ended by them."""
        frames = self.thread.frames
        if len(frames) > 0:
            frame = frames[-1]
            frame.take(values)
        else:
            self.go_back("dead", values)

    def do_throw(self, value):
        """Takes frames away down to one that catches a value; without one the thread dies by it."""
        frames = self.thread.frames
        catching = [at for at, frame in enumerate(frames) if frame.CATCHES]
        if len(catching) == 0:
            self.die(value)
            return
        first = catching[-1]
        catcher = frames[first]
        for frame in frames[first + 1:]:
            catcher.pending.extend(frame.pending)
        del frames[first + 1:]
        catcher.catch(value)

    # Frames.

    def check_room(self):
        """Raises if the running thread has no room for one more frame."""
        if len(self.thread.frames) >= MOST_FRAMES:
            raise Thrown("stack overflow")

    def push(self, frame):
        """Lets a frame be the topmost one."""
        self.check_room()
        self.thread.frames.append(frame)

    def drop_frame(self):
        """Takes the topmost frame away."""
        self.thread.frames.pop()

    def with_line(self, value, level):
        """A value that is thrown; a string has the line of the frame at a level put ahead, if it has one."""
        frames = self.thread.frames
        if not isinstance(value, str) or not 1 <= level <= len(frames):
            return value
        frame = frames[-level]
        line = frame.line_told()
        return value if line is None else f"{line}: {value}"

    # Threads.

    def refusal(self, thread):
        """Why a thread cannot be resumed, or None."""
        if thread.status == "dead":
            return "cannot resume dead coroutine"
        if thread.status != "suspended":
            return "cannot resume non-suspended coroutine"
        if self.thread.depth >= MOST_RESUMES:
            return "too many resumes"
        return None

    def resume(self, thread, given, is_wrapped):
        """Lets a thread go on, if it can."""
        why = self.refusal(thread)
        if why is not None and is_wrapped:
            raise Thrown(why)
        if why is not None:
            self.give([False, why])
            return
        elder = self.thread
        elder.status = "normal"
        thread.status = "running"
        thread.elder = elder
        thread.depth = elder.depth + 1
        thread.is_wrapped = is_wrapped
        self.thread = thread
        if thread.called is None:
            self.give(given)
        else:
            called = thread.called
            thread.called = None
            self.call(called, given)

    def go_back(self, status, values):
        """Lets the running thread have another status, and tells values to the one that resumed it."""
        thread = self.switch_back(status)
        self.give(values if thread.is_wrapped else [True] + values)

    def switch_back(self, status):
        """Lets the thread run that resumed the running one; returns the latter."""
        thread = self.thread
        elder = thread.elder
        thread.status = status
        thread.elder = None
        elder.status = "running"
        self.thread = elder
        return thread

    def die(self, value):
        """Lets the running thread be dead by a value that nobody caught; what was pending is kept."""
        thread = self.switch_back("dead")
        self.take_frames(thread)
        thread.has_failed = True
        thread.error = value
        if thread.is_wrapped:
            self.close_thread(thread, True)
        else:
            self.give([False, value])

    def take_frames(self, thread):
        """Takes all frames of a thread away, and keeps with it what they had pending."""
        for frame in thread.frames:
            thread.pending.extend(frame.pending)
        thread.frames = []

    def close_thread(self, thread, is_wrapped):
        """Ends a thread, and lets be closed what it has pending."""
        thread.status = "dead"
        thread.called = None
        self.take_frames(thread)
        if len(thread.pending) > 0:
            self.check_room()
        # Without a value to be closed the call is no frame, but answers in its first step.
        self.thread.frames.append(ClosingCall(thread, is_wrapped))

    # Memory.

    def note_marked(self, table):
        """Notes a table that is to be finished, if its metatable has the event now."""
        if self.marked is not None and meta_of(table, "__gc") is not None and table not in self.marked:
            self.marked[table] = True

    def last_marked(self):
        """All marked tables, the last one first; from now on nothing is marked or collected."""
        tables = list(reversed(list(self.marked)))
        self.marked = None
        self.is_finishing = True
        return tables

    def collect(self):
        """Does a collection, and lets be finished what it wants to be."""
        self.check_room()
        if self.is_finishing:
            self.give([])
            return
        tables = swept([self.globals, self.main, self.thread], list(self.marked))
        for table in tables:
            del self.marked[table]
        if len(tables) == 0:
            self.give([])
        else:
            self.is_finishing = True
            self.push(Collecting(tables))
