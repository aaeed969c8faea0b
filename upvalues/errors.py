"""The errors that the package raises about its arguments, its programs and its runs."""


class LuaError(ArithmeticError):
    """What all errors of the package derive from, but for those of the language itself."""


class InvalidProgram(LuaError):
    """A program that is refused: the path of what is refused, and a word for the rule."""

    def __init__(self, path, word):
        self.path = path
        self.word = word


class InvalidCode(LuaError):
    """Code that is refused: the function, the place of the instruction, a word for the rule."""

    def __init__(self, function, at, word):
        self.function = function
        self.at = at
        self.word = word


class InvalidArgument(LuaError):
    """An argument that is refused: its name."""

    def __init__(self, part):
        self.part = part


class LimitExceeded(LuaError):
    """A run that wanted more work than it was given: the limit."""

    def __init__(self, limit):
        self.limit = limit
