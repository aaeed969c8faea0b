"""The code of a function, as the machine runs it."""


class Code:
    """The code of one function: how it is called, what it captures, and its instructions."""

    def __init__(self, params, has_dots, size, upvalues, instructions, lines, lives):
        self.params = params
        self.has_dots = has_dots
        self.size = size
        self.upvalues = copy_of(upvalues)
        self.instructions = copy_of(instructions)
        self.lines = copy_of(lines)
        self.lives = copy_of(lives)

    def all_parts(self):
        """All that the code was made of, in the same order, with lists of its own."""
        return (
            self.params,
            self.has_dots,
            self.size,
            copy_of(self.upvalues),
            copy_of(self.instructions),
            copy_of(self.lines),
            copy_of(self.lives),
        )


def copy_of(thing):
    """A list of its own for a list; anything else as it is, since only a check may refuse it."""
    if isinstance(thing, list):
        return list(thing)
    return thing
