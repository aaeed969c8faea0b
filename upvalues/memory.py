"""Memory: what is reached from some values, and what a collection lets go."""

from upvalues.errors import InvalidArgument
from upvalues.objects import Closure, Numbered, Resumer, Thread
from upvalues.tables import Table


class Reach:
    """The objects that are reached from some values."""

    def __init__(self, values):
        self.found = {}
        # What was found, but not yet led on.
        self.fresh = []
        # For each key that is not reached: the values that wait for it in tables with weak keys.
        self.waiting = {}
        self.reach_all(values)
        while self.fresh:
            thing = self.fresh.pop()
            self.lead_on(thing)
            self.reach_all(self.waiting.pop(thing, ()))

    def has(self, value):
        """Whether a value is reached; what is no object needs not be."""
        return not isinstance(value, Numbered) or value in self.found

    def reach(self, value):
        """Lets a value be reached."""
        if not self.has(value):
            self.found[value] = True
            self.fresh.append(value)

    def reach_all(self, values):
        """Lets some values be reached."""
        for value in values:
            self.reach(value)

    def lead_on(self, thing):
        """Lets be reached what an object that is reached leads to."""
        if isinstance(thing, Table):
            self.lead_from_table(thing)
        elif isinstance(thing, Thread):
            self.reach_all(held_by(thing))
        elif isinstance(thing, Closure):
            self.reach_all([cell.value for cell in thing.cells])
        elif isinstance(thing, Resumer):
            self.reach(thing.thread)

    def lead_from_table(self, table):
        """Lets be reached what a table leads to: its metatable, and keys and values that are not weak."""
        self.reach(table.meta)
        keys_are_weak, values_are_weak = mode_of(table)
        if not values_are_weak:
            self.reach_all(table.places)
        for node in used_nodes(table):
            if node.value is None:
                continue
            if not keys_are_weak:
                self.reach(node.key)
            if not values_are_weak:
                self.reach_behind(node.key, node.value)

    def reach_behind(self, key, value):
        """Lets a value be reached as soon as its key is."""
        if self.has(key):
            self.reach(value)
        else:
            self.waiting.setdefault(key, []).append(value)

    def tables_found(self):
        """The tables among what is reached."""
        return [thing for thing in self.found if isinstance(thing, Table)]


def mode_of(table):
    """Whether the keys of a table are weak at this moment, and whether its values are."""
    mode = None if table.meta is None else table.meta.get("__mode")
    if not isinstance(mode, str):
        return False, False
    return "k" in mode, "v" in mode


def used_nodes(table):
    """The nodes of a table that have a key."""
    return [node for node in table.nodes if node is not None]


def held_by(thread):
    """The values to which a thread leads."""
    found = [thread.called, thread.elder, thread.error] + thread.pending
    for frame in thread.frames:
        found.extend(frame.live())
        found.extend(frame.pending)
    return found


def reached(values):
    """All objects that are reached from some values, told and ascending."""
    if not isinstance(values, (list, tuple)):
        raise InvalidArgument("values")
    reach = Reach(values)
    return sorted([(thing.KIND, thing.number) for thing in reach.found])


def swept(values, marked):
    """Does a collection; returns the marked tables that are to be finished, the last marked first."""
    if not isinstance(values, (list, tuple)):
        raise InvalidArgument("values")
    if not isinstance(marked, (list, tuple)) or not all([isinstance(one, Table) for one in marked]):
        raise InvalidArgument("marked")
    first = Reach(values)
    for table in first.tables_found():
        clear_values(table, first)
    finished = [table for table in reversed(marked) if not first.has(table)]
    second = Reach(list(values) + finished)
    for table in second.tables_found():
        clear_keys(table, second)
        if not first.has(table):
            clear_values(table, second)
    for table in second.tables_found():
        bury(table)
    return finished


def clear_values(table, reach):
    """Takes away the values of a table with weak values that are not reached."""
    if not mode_of(table)[1]:
        return
    for at, value in enumerate(list(table.places)):
        if not reach.has(value):
            table.places[at] = None
    for node in used_nodes(table):
        if not reach.has(node.value):
            node.value = None


def clear_keys(table, reach):
    """Takes away the values of a table with weak keys whose keys are not reached."""
    if not mode_of(table)[0]:
        return
    for node in used_nodes(table):
        if not reach.has(node.key):
            node.value = None


def bury(table):
    """Lets the nodes of a table be dead that have no value, and a string or an object as their key."""
    for node in used_nodes(table):
        if node.value is None and isinstance(node.key, (str, Numbered)):
            node.is_dead = True
