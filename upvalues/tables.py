"""Tables, as they lie in memory: places for the integers from 1 on, and nodes for all other keys."""

from upvalues.ints import GREATEST, ONES, is_int
from upvalues.numbers import Float, is_nan, whole_of
from upvalues.objects import Kinded, Native, Numbered, Thrown

# The lowest 32 bits.
SHORT_ONES = 2 ** 32 - 1
# No table grows to more places, which is 1 doubled so many times.
MOST_PLACES = 2 ** 31
DOUBLINGS = 31


class Node:
    """A node that is used: a key, its value or None, and the number of the next node or None."""

    def __init__(self, key, value, link):
        self.key = key
        self.value = value
        self.link = link
        self.is_dead = False


class Table(Numbered):
    """A table; what is thrown for a key leaves it as it was."""

    KIND = "table"

    def __init__(self, number, array=0, nodes=0, *, meta=None):
        self.number = number
        self.meta = meta
        self.places = [None] * array
        self.nodes = unused_nodes(nodes)
        self.free = len(self.nodes)

    def room(self):
        """How many places and how many nodes there are."""
        return len(self.places), len(self.nodes)

    def rows(self):
        """For each node (key, value, link), or None if it is unused."""
        return [None if node is None else (node.key, node.value, node.link) for node in self.nodes]

    def get(self, key):
        """The value of a key, or None."""
        key = counted_key(key)
        if self.has_place(key):
            return self.places[key - 1]
        at = self.node_of(key, False)
        return None if at is None else self.nodes[at].value

    def put(self, key, value):
        """Sets the value of a key, or takes it away if it is None."""
        key = counted_key(key)
        if self.has_place(key):
            self.places[key - 1] = value
            return
        at = self.node_of(key, False)
        if at is not None:
            node = self.nodes[at]
            node.value = value
            return
        check_key(key)
        if value is not None:
            self.put_new(key, value)

    def make_room(self, count):
        """Lets there be so many places at least."""
        if len(self.places) < count:
            self.rebuild(count, len(self.nodes))

    def put_batch(self, start, values):
        """Puts values at the integers from start on, the last one first; ahead of it makes room for all."""
        self.make_room(start + len(values) - 1)
        for at in reversed(range(len(values))):
            self.put(start + at, values[at])

    def border(self):
        """An integer with a value, or 0, behind which the next one has none."""
        many = len(self.places)
        if many > 0 and self.places[many - 1] is None:
            return self.border_between(0, many)
        if len(self.nodes) == 0 or self.get(many + 1) is None:
            return many
        low = max(many, 1)
        high = min(2 * low, GREATEST)
        while self.get(high) is not None:
            if high == GREATEST:
                return high
            low = high
            high = min(2 * low, GREATEST)
        return self.border_between(low, high)

    def next_after(self, key):
        """(key, value) of the next key that has a value, or None at the end; None is ahead of all keys."""
        first = 0 if key is None else self.step_of(counted_key(key)) + 1
        many = len(self.places)
        for at in range(first, many):
            if self.places[at] is not None:
                return at + 1, self.places[at]
        for at in range(max(0, first - many), len(self.nodes)):
            node = self.nodes[at]
            if node is not None and node.value is not None:
                return node.key, node.value
        return None

    def has_place(self, key):
        """Whether a key is one of the places."""
        return is_int(key) and 1 <= key <= len(self.places)

    def node_of(self, key, with_dead):
        """The number of the node of a key, or None."""
        if len(self.nodes) == 0 or not can_be_key(key):
            return None
        at = main_position(key, len(self.nodes))
        while at is not None:
            node = self.nodes[at]
            # Only a main position can be unused.
            if node is None:
                return None
            if are_equal_keys(node.key, key) and (with_dead or not node.is_dead):
                return at
            at = node.link
        return None

    def step_of(self, key):
        """How many places and nodes stand ahead of that of a key."""
        if self.has_place(key):
            return key - 1
        at = self.node_of(key, True)
        if at is None:
            raise Thrown("invalid key to 'next'")
        return len(self.places) + at

    def border_between(self, low, high):
        """A border from low on, below high, which has no value."""
        while high - low > 1:
            middle = (low + high) // 2
            if self.get(middle) is None:
                high = middle
            else:
                low = middle
        return low

    def put_new(self, key, value):
        """Puts a key that has no place and no node, with a value."""
        if len(self.nodes) == 0:
            self.grow_and_put(key, value)
            return
        at = main_position(key, len(self.nodes))
        node = self.nodes[at]
        if node is None:
            self.nodes[at] = Node(key, value, None)
        elif node.value is None:
            node.key = key
            node.value = value
            node.is_dead = False
        elif self.find_free():
            self.put_beside(at, key, value)
        else:
            self.grow_and_put(key, value)

    def put_beside(self, at, key, value):
        """Puts a new key whose main position is taken; the free pointer stands at an unused node."""
        node = self.nodes[at]
        home = main_position(node.key, len(self.nodes))
        if home == at:
            self.nodes[self.free] = Node(key, value, node.link)
            node.link = self.free
            return
        ahead = self.nodes[home]
        while ahead.link != at:
            ahead = self.nodes[ahead.link]
        ahead.link = self.free
        self.nodes[self.free] = node
        self.nodes[at] = Node(key, value, None)

    def find_free(self):
        """Lets the free pointer go down to an unused node, and tells whether there is one."""
        while self.free > 0:
            self.free -= 1
            if self.nodes[self.free] is None:
                return True
        return False

    def grow_and_put(self, key, value):
        """Makes room for all keys that have a value and one more, and puts this one."""
        keys = [at + 1 for at, held in enumerate(self.places) if held is not None]
        keys.extend([node.key for node in self.nodes if node is not None and node.value is not None])
        keys.append(key)
        places = places_for(keys)
        inside = [one for one in keys if is_int(one) and 1 <= one <= places]
        self.rebuild(places, len(keys) - len(inside))
        self.put(key, value)

    def rebuild(self, places, nodes):
        """Gives the table so many places, and so many nodes, made anew, and puts again what it had."""
        beyond = self.places[places:]
        elder = [node for node in self.nodes if node is not None and node.value is not None]
        self.places = self.places[:places] + [None] * (places - len(self.places))
        self.nodes = unused_nodes(nodes)
        self.free = len(self.nodes)
        for at, value in enumerate(beyond):
            self.put(places + at + 1, value)
        for node in elder:
            self.put(node.key, node.value)


def unused_nodes(many):
    """As many unused nodes as the least power of two that is no less than a number; none for 0."""
    if many == 0:
        return []
    return [None] * (1 << (many - 1).bit_length())


def counted_key(key):
    """A key as it counts: the integer for a float that has the value of one."""
    if not isinstance(key, Float):
        return key
    whole = whole_of(key)
    return key if whole is None else whole


def are_equal_keys(one, other):
    """Whether two keys are equal as they count; 1 and True are not, though they are == in Python."""
    return one == other and isinstance(one, bool) == isinstance(other, bool)


def can_be_key(thing):
    """Whether a thing of any kind can be a key: it is a value of the language, but not nil or nan."""
    return isinstance(thing, (bool, int, str, Kinded)) and not is_nan(thing)


def check_key(key):
    """Raises for what can be no key."""
    if key is None:
        raise Thrown("table index is nil")
    if is_nan(key):
        raise Thrown("table index is NaN")


def main_position(key, many):
    """The number of the node, among so many, at which a key is looked for first."""
    odd = (many - 1) | 1
    if isinstance(key, bool):
        return (1 if key else 0) % many
    if isinstance(key, int):
        return (key & ONES) % odd
    if isinstance(key, Float):
        return sum_of_float(key) % odd
    if isinstance(key, str):
        return sum_of_text(key) % many
    if isinstance(key, Native):
        return sum_of_text(key.name) % many
    return key.number % odd


def sum_of_text(text):
    """The number that stands for a string when its main position is sought."""
    found = 0
    for sign in text:
        found = (31 * found + ord(sign)) & SHORT_ONES
    return found


def sum_of_float(number):
    """The number that stands for a float when its main position is sought."""
    if number.top == "inf":
        return 0
    length = number.top.bit_length()
    # The fraction's first 31 bits; what is behind them is cut off towards 0.
    cut = number.sign * ((number.top << 31) >> length)
    found = (length + number.power + cut) & SHORT_ONES
    return found if found < 1 << 31 else SHORT_ONES - found


def places_for(keys):
    """The greatest power of two such that more than half of the integers from 1 to it are keys, or 0."""
    # How many keys are at most the power of two, but not at most the one below it.
    counts = [0] * (DOUBLINGS + 1)
    for key in keys:
        if is_int(key) and 1 <= key <= MOST_PLACES:
            counts[(key - 1).bit_length()] += 1
    found = 0
    total = 0
    for doublings, count in enumerate(counts):
        total += count
        if 2 * total > 1 << doublings:
            found = 1 << doublings
    return found
