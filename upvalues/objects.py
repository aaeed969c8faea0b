"""Values of the language that are objects, the kinds of all values, and what is thrown."""


class Thrown(ArithmeticError):
    """An error of the language: its value is what a program can catch."""

    def __init__(self, value):
        self.value = value


class Kinded:
    """A value of the language that is an object of the package: its class tells its kind."""

    KIND = "nil"


class Numbered(Kinded):
    """An object of a run, which has a number; only such ones are collected."""


class Native(Kinded):
    """A function of the library; act is None for one that is never called."""

    KIND = "function"

    def __init__(self, name, act):
        self.name = name
        self.act = act


class Cell:
    """A variable, which the functions that captured it share."""

    def __init__(self, value):
        self.value = value


class Closure(Numbered):
    """A function of a program: its body, as its engine has it, and the variables that it captured."""

    KIND = "function"

    def __init__(self, number, body, cells):
        self.number = number
        self.body = body
        self.cells = cells


class Resumer(Numbered):
    """A function of wrap, which resumes its thread."""

    KIND = "function"

    def __init__(self, number, thread):
        self.number = number
        self.thread = thread


class Thread(Numbered):
    """A thread of calls: its frames, and what it needs ahead of them and behind them."""

    KIND = "thread"

    def __init__(self, number, called):
        self.number = number
        # What is called when the thread is resumed for the first time; None from then on.
        self.called = called
        self.frames = []
        self.status = "suspended"
        # The thread that resumed this one, as long as it has to go on behind it.
        self.elder = None
        # How many threads stand in the row of resumes that ends here.
        self.depth = 1
        # Whether it was resumed by a function of wrap, so that its results are given as they are.
        self.is_wrapped = False
        # What a thread that died by an error has left: the value, and values still to be closed.
        self.has_failed = False
        self.error = None
        self.pending = []

    def forget(self):
        """Lets go what it has left, which is closed and told just once."""
        self.has_failed = False
        self.error = None
        self.pending = []


def kind_name(value):
    """The kind of a value, as programs and errors name it."""
    if value is None:
        return "nil"
    if isinstance(value, bool):
        return "boolean"
    if isinstance(value, int):
        return "number"
    if isinstance(value, str):
        return "string"
    return value.KIND


def is_function(value):
    """Whether a value is a function of any kind."""
    return isinstance(value, Kinded) and value.KIND == "function"


def is_true(value):
    """Whether a value counts as true."""
    return value is not None and value is not False


def told(value):
    """A value as it is told behind a run: objects by their kinds and numbers."""
    if isinstance(value, Native):
        return "native", value.name
    if isinstance(value, Numbered):
        return value.KIND, value.number
    return value
