"""The functions of the library that make texts: print and tostring, and what values are as texts."""

from upvalues.arguments import value_at
from upvalues.events import meta_of
from upvalues.frames import LibraryFrame
from upvalues.numbers import is_number
from upvalues.numerals import text_of
from upvalues.objects import Native, Thrown


def plain_text(value):
    """The text of a value without the event."""
    if value is None:
        return "nil"
    if isinstance(value, bool):
        return "true" if value else "false"
    if isinstance(value, str):
        return value
    if is_number(value):
        return text_of(value)
    if isinstance(value, Native):
        return f"function: {value.name}"
    return f"{value.KIND}: {value.number}"


class Telling(LibraryFrame):
    """A call of print or tostring: makes the texts of some values, from the left."""

    HOLDS_YIELD = True

    def __init__(self, values, is_printing):
        LibraryFrame.__init__(self)
        self.left = values
        self.is_printing = is_printing
        self.texts = []

    def live(self):
        """The values that are still to be told."""
        return list(self.left)

    def take(self, values):
        """Takes what an event has made of a value."""
        self.texts.append(values[0] if len(values) > 0 else None)

    def do_step(self, run):
        """Makes the next texts up to one that an event makes; behind the last one the call ends."""
        if len(self.texts) > 0 and not isinstance(self.texts[-1], str):
            raise Thrown("'__tostring' must return a string")
        while len(self.left) > 0:
            value = self.left.pop(0)
            event = meta_of(value, "__tostring")
            if event is not None:
                self.ask(run, event, [value])
                return
            self.texts.append(plain_text(value))
        if self.is_printing:
            run.log.append(tuple(self.texts))
            self.end_with(run, [])
        else:
            self.end_with(run, self.texts)


def do_print(run, args):
    """print(..)"""
    call = Telling(args, True)
    call.do_step(run)


def do_tostring(run, args):
    """tostring(x)"""
    call = Telling([value_at(args, 1, "tostring")], False)
    call.do_step(run)
