"""[56] and [57] word by word, for tables alone: what is reached is asked again and again until nothing is added."""

from upvalues.tables import Table


def is_weak(table, sign):
    mode = table.meta.get("__mode") if table.meta is not None else None
    return isinstance(mode, str) and sign in mode


def entries(table):
    """(key, value, node or None, index of the place) of all entries."""
    found = [(at + 1, value, None, at) for at, value in enumerate(table.places) if value is not None]
    return found + [(node.key, node.value, node, None) for node in table.nodes if node is not None and node.value is not None]


def closure(values):
    """The tables that are reached, as a list."""
    found = []
    for value in values:
        if isinstance(value, Table) and value not in found:
            found.append(value)
    changed = True
    while changed:
        changed = False
        for table in list(found):
            for value in led_to(table, found):
                if isinstance(value, Table) and value not in found:
                    found.append(value)
                    changed = True
    return found


def led_to(table, found):
    keys_weak, values_weak = is_weak(table, "k"), is_weak(table, "v")
    led = [table.meta]
    for key, value, _, _ in entries(table):
        if not keys_weak:
            led.append(key)
        if not values_weak and (not keys_weak or not isinstance(key, Table) or key in found):
            led.append(value)
    return led


def told(values):
    return sorted(("table", table.number) for table in closure(values))


def collected(values, marked):
    """Does a collection, and returns the tables to be finished."""
    first = closure(values)
    is_lost = lambda value, reached: isinstance(value, Table) and value not in reached
    for table in first:
        if is_weak(table, "v"):
            lose(table, lambda key, value: is_lost(value, first))
    finished = [table for table in reversed(marked) if table not in first]
    second = closure(list(values) + finished)
    for table in second:
        if is_weak(table, "k"):
            lose(table, lambda key, value: is_lost(key, second))
        if table not in first and is_weak(table, "v"):
            lose(table, lambda key, value: is_lost(value, second))
    for table in second:
        for node in table.nodes:
            if node is not None and node.value is None and isinstance(node.key, (str, Table)):
                node.is_dead = True
    return finished


def lose(table, ask):
    for key, value, node, place in entries(table):
        if ask(key, value):
            if node is None:
                table.places[place] = None
            else:
                node.value = None


def image(tables):
    """All that can be told of some tables."""
    rows = []
    for table in tables:
        nodes = [None if node is None else (name(node.key), name(node.value), node.link, node.is_dead) for node in table.nodes]
        rows.append((table.number, [name(value) for value in table.places], nodes))
    return rows


def name(value):
    return ("table", value.number) if isinstance(value, Table) else value
