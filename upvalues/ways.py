"""The ways through the code of a function: what is known at each place, and what goes wrong there.

Sets of registers are integers: the bit of a register is set if it is one of them.
"""

from upvalues.instructions import bit, bits, reads, registers_in, writes

# What is known of the open row at a place: on some way none was left, on some way one was.
NO_ROW = 1
A_ROW = 2

COUNTING = ("round", "call", "eachcall")
ENDING = ("return", "tail")
CALLING = ("get", "set", "self", "op", "call", "eachcall", "close")
ASKING = ("if", "unless")


class State:
    """What is known at a place, ahead of its instruction: left tells whether an open row is left there."""

    def __init__(self, written, left, pending, plans):
        self.written = written
        self.left = left
        self.pending = pending
        self.plans = plans

    def merged(self, other):
        """What is known if this or another state may be there."""
        return State(
            self.written & other.written,
            self.left | other.left,
            self.pending | other.pending,
            self.plans & other.plans,
        )

    def covers(self, other):
        """Whether what is known here is no more than what is true in another state."""
        return (
            self.written & ~other.written == 0
            and other.left & ~self.left == 0
            and other.pending & ~self.pending == 0
            and self.plans & ~other.plans == 0
        )


class Step:
    """One way on from a place: to which one, what is written on it, which plan begins or ends on it."""

    def __init__(self, target, written, begun, ended):
        self.target = target
        self.written = written
        self.begun = begun
        self.ended = ended


def steps_from(at, part):
    """The ways on from a place."""
    match part[0]:
        case "return" | "tail":
            return []
        case "jump":
            return [Step(part[1], 0, 0, 0)]
        case "if" | "unless":
            return [Step(at + 1, 0, 0, 0), Step(part[2], 0, 0, 0)]
        case "forbegin":
            plan = bit(part[1])
            return [Step(at + 1, bit(part[1] + 3), plan, 0), Step(part[2], 0, 0, plan)]
        case "fornext":
            return [Step(at + 1, 0, 0, bit(part[1])), Step(part[2], bit(part[1] + 3), 0, 0)]
        case "eachnext":
            return [Step(at + 1, 0, 0, 0), Step(part[2], bit(part[1] + 2), 0, 0)]
    return [Step(at + 1, writes(part), 0, 0)]


def rows_told(left):
    """Whether an open row is left, as a paper tells it."""
    if left == NO_ROW:
        return (False,)
    return (True,) if left == A_ROW else (False, True)


def takes_row(part):
    """Whether an instruction takes the open row."""
    match part[0]:
        case "append":
            return part[5]
        case "call" | "tail" | "return":
            return part[3]
    return False


def row_behind(part):
    """Whether an instruction leaves an open row."""
    return A_ROW if part[0] in ("call", "dots") and part[-1] is None else NO_ROW


def pending_behind(part, pending):
    """What is pending behind an instruction."""
    if part[0] == "mark":
        return pending | bit(part[1])
    if part[0] == "close":
        return pending & bits(0, part[1])
    return pending


def state_behind(state, part, step):
    """What is known behind an instruction, on one of the ways on."""
    return State(
        state.written | step.written,
        row_behind(part),
        pending_behind(part, state.pending),
        (state.plans | step.begun) & ~step.ended,
    )


def own_needs(codes, part):
    """The registers whose values an instruction needs; what is only asked for its truth is not one."""
    return 0 if part[0] in ASKING else reads(codes, part)


def needed_on(steps, needed):
    """What is needed where the ways on lead, and not written on them."""
    found = 0
    for step in steps:
        found = found | (needed[step.target] & ~step.written)
    return found


def kept_over(part, steps, needed):
    """What is needed behind an instruction, and has to be kept while it calls something."""
    found = needed_on(steps, needed)
    if part[0] == "self":
        # The object is written ahead of the call, so it has to be kept as well.
        found = found | (needed[steps[0].target] & bit(part[1] + 1))
    return found


def fault_of_state(codes, part, state):
    """The word for what goes wrong at a place by what is known there, or None."""
    if state.left != (A_ROW if takes_row(part) else NO_ROW):
        return "row"
    if reads(codes, part) & ~state.written:
        return "read"
    if part[0] == "mark" and state.pending >> part[1]:
        return "mark"
    if part[0] == "tail" and state.pending:
        return "tail"
    if part[0] == "fornext" and not state.plans & bit(part[1]):
        return "plan"
    return None


def is_dropped(part, live, steps, needed):
    """Whether an instruction that may call something drops what is needed behind it."""
    if part[0] in CALLING or (part[0] == "unary" and part[2] != "not"):
        return kept_over(part, steps, needed) >> live > 0
    return False


class Ways:
    """All ways through the code of a function that is of good form."""

    def __init__(self, codes, code):
        self.codes = codes
        self.code = code
        self.parts = code.instructions
        self.steps = [steps_from(at, part) for at, part in enumerate(self.parts)]
        self.states = [None] * len(self.parts)
        self.needed = [0] * len(self.parts)
        self.ranks = [None] * len(self.parts)
        self.find_states()
        self.met = [at for at, state in enumerate(self.states) if state is not None]
        self.find_needed()
        self.find_ranks()

    def find_states(self):
        """Finds what is known at each place to which a way comes."""
        self.states[0] = State(bits(0, self.code.params), NO_ROW, 0, 0)
        waiting = [0]
        while waiting:
            at = waiting.pop()
            for step in self.steps[at]:
                found = state_behind(self.states[at], self.parts[at], step)
                elder = self.states[step.target]
                if elder is None or not elder.covers(found):
                    self.states[step.target] = found if elder is None else elder.merged(found)
                    waiting.append(step.target)

    def find_needed(self):
        """Finds the registers that are read later, ahead of being written."""
        has_changed = True
        while has_changed:
            has_changed = False
            for at in reversed(self.met):
                found = own_needs(self.codes, self.parts[at]) | needed_on(self.steps[at], self.needed)
                if found != self.needed[at]:
                    self.needed[at] = found
                    has_changed = True

    def find_ranks(self):
        """Finds how many instructions can be done ahead of one that counts or ends; None for those before a loop."""
        left = [len(steps) for steps in self.steps]
        before = [[] for _ in self.parts]
        for at in self.met:
            for step in self.steps[at]:
                before[step.target].append(at)
        waiting = [at for at in self.met if self.parts[at][0] in COUNTING or self.parts[at][0] in ENDING]
        for at in waiting:
            self.ranks[at] = 0
        while waiting:
            target = waiting.pop()
            for at in before[target]:
                left[at] -= 1
                if left[at] == 0 and self.ranks[at] is None:
                    self.ranks[at] = 1 + max([self.ranks[step.target] for step in self.steps[at]])
                    waiting.append(at)

    def is_in_loop(self, first):
        """Whether some way leads from a place back to it without counting."""
        seen = {}
        waiting = [first]
        while waiting:
            at = waiting.pop()
            for step in self.steps[at]:
                if step.target == first:
                    return True
                if self.ranks[step.target] is None and step.target not in seen:
                    seen[step.target] = True
                    waiting.append(step.target)
        return False

    def fault(self):
        """The least place at which something goes wrong, and the word for it, or None."""
        for at in self.met:
            part = self.parts[at]
            word = fault_of_state(self.codes, part, self.states[at])
            if word is None and is_dropped(part, self.code.lives[at], self.steps[at], self.needed):
                word = "live"
            if word is None and self.ranks[at] is None and self.is_in_loop(at):
                word = "loop"
            if word is not None:
                return at, word
        return None

    def rows(self):
        """For each place None, or what a paper tells of it."""
        return [None if self.states[at] is None else self.row_told(at) for at in range(len(self.parts))]

    def row_told(self, at):
        """What a paper tells of a place to which a way comes."""
        state = self.states[at]
        return (
            registers_in(state.written),
            rows_told(state.left),
            registers_in(state.pending),
            registers_in(state.plans),
            registers_in(self.needed[at]),
            self.ranks[at],
        )
