"""[11] to [16] step by step, over plain lists: a table is a dict with places, nodes and a free pointer."""

import math

from upvalues.numbers import Float
from upvalues.objects import Native

GREATEST = 2 ** 63 - 1


def plain(key):
    """A key in a form that is == just to equal keys."""
    if isinstance(key, Float):
        if key.top == "inf":
            return ("float", math.inf * key.sign)
        value = key.sign * math.ldexp(key.top, key.power)
        return ("int", int(value)) if value == int(value) and -(2 ** 63) <= value < 2 ** 63 else ("float", value)
    if isinstance(key, int) and not isinstance(key, bool):
        return ("int", key)
    return (type(key).__name__, key)


def text_sum(text):
    total = 0
    for sign in text:
        total = (31 * total + ord(sign)) % 2 ** 32
    return total


def main_position(key, many):
    kind, value = plain(key)
    odd = many - 1 if (many - 1) % 2 else many
    if kind == "bool":
        return int(value) % many
    if kind == "str":
        return text_sum(value) % many
    if kind == "int":
        return value % 2 ** 64 % odd
    if kind == "float":
        if math.isinf(value):
            return 0
        part, power = math.frexp(value)
        total = (power + math.trunc(part * 2 ** 31)) % 2 ** 32
        return (2 ** 32 - 1 - total if total >= 2 ** 31 else total) % odd
    return text_sum(value.name) % many if isinstance(value, Native) else value.number % odd


def new(places=0, nodes=0):
    table = {"places": [None] * places}
    new_nodes(table, nodes)
    return table


def new_nodes(table, many):
    size = 0 if many == 0 else 1
    while size < many:
        size *= 2
    table["nodes"] = [None] * size
    table["free"] = size


def place(table, key):
    kind, value = plain(key)
    return value - 1 if kind == "int" and 1 <= value <= len(table["places"]) else None


def find(table, key):
    nodes = table["nodes"]
    at = main_position(key, len(nodes)) if nodes else None
    while at is not None and nodes[at] is not None:
        if plain(nodes[at][0]) == plain(key):
            return at
        at = nodes[at][2]
    return None


def get(table, key):
    if place(table, key) is not None:
        return table["places"][place(table, key)]
    at = find(table, key)
    return None if at is None else table["nodes"][at][1]


def put(table, key, value):
    kind, whole = plain(key)
    key = whole if kind == "int" else key
    nodes = table["nodes"]
    if place(table, key) is not None:
        table["places"][place(table, key)] = value
        return
    at = find(table, key)
    if at is not None:
        nodes[at][1] = value
        return
    if value is None:
        return
    if not nodes:
        grow(table, key)
        return put(table, key, value)
    home = main_position(key, len(nodes))
    if nodes[home] is None:
        nodes[home] = [key, value, None]
        return
    if nodes[home][1] is None:
        nodes[home][:2] = [key, value]
        return
    while True:
        if table["free"] == 0:
            grow(table, key)
            return put(table, key, value)
        table["free"] -= 1
        if nodes[table["free"]] is None:
            break
    free = table["free"]
    if main_position(nodes[home][0], len(nodes)) == home:
        nodes[free] = [key, value, nodes[home][2]]
        nodes[home][2] = free
        return
    for node in nodes:
        if node is not None and node[2] == home:
            node[2] = free
    nodes[free] = nodes[home]
    nodes[home] = [key, value, None]


def grow(table, key):
    known = [at + 1 for at, value in enumerate(table["places"]) if value is not None]
    known += [node[0] for node in table["nodes"] if node is not None and node[1] is not None] + [key]
    whole = [one for one in known if plain(one)[0] == "int"]
    best = 0
    for power in range(32):
        if sum(1 <= one <= 2 ** power for one in whole) > 2 ** power / 2:
            best = 2 ** power
    resize(table, best, len([one for one in known if not (plain(one)[0] == "int" and 1 <= one <= best)]))


def resize(table, places, nodes):
    old_places, old_nodes = table["places"], table["nodes"]
    new_nodes(table, nodes)
    table["places"] = [old_places[at] if at < len(old_places) else None for at in range(places)]
    for at in range(places, len(old_places)):
        put(table, at + 1, old_places[at])
    for node in old_nodes:
        if node is not None and node[1] is not None:
            put(table, node[0], node[1])


def make_room(table, count):
    if len(table["places"]) < count:
        resize(table, count, len(table["nodes"]))


def halve(table, low, high):
    while high - low > 1:
        middle = (low + high) // 2
        if get(table, middle) is None:
            high = middle
        else:
            low = middle
    return low


def border(table):
    places = table["places"]
    if places and places[-1] is None:
        return halve(table, 0, len(places))
    if not table["nodes"] or get(table, len(places) + 1) is None:
        return len(places)
    low = max(len(places), 1)
    while True:
        high = min(2 * low, GREATEST)
        if get(table, high) is None:
            return halve(table, low, high)
        if high == GREATEST:
            return high
        low = high


def walk(table):
    """(key, value) of all that have a value, in the order of next_after."""
    found = [(at + 1, value) for at, value in enumerate(table["places"]) if value is not None]
    return found + [(node[0], node[1]) for node in table["nodes"] if node is not None and node[1] is not None]


def room(table):
    return len(table["places"]), len(table["nodes"])


def rows(table):
    return [None if node is None else tuple(node) for node in table["nodes"]]
