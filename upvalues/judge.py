"""Judged code: whether code can go wrong, and papers that show that it does not."""

from upvalues.errors import InvalidCode
from upvalues.instructions import bits, check_heads, check_instructions
from upvalues.ints import is_int
from upvalues.ways import (
    A_ROW,
    COUNTING,
    NO_ROW,
    State,
    Ways,
    fault_of_state,
    is_dropped,
    needed_on,
    own_needs,
    state_behind,
    steps_from,
)

MOST_RANK = 2 ** 30


def check_code(codes):
    """Raises InvalidCode for what is no program of code, or may go wrong."""
    judged(codes)


def judged(codes):
    """The ways through each Code; raises for the first one that is refused."""
    check_heads(codes)
    found = []
    for number, code in enumerate(codes):
        check_instructions(codes, number)
        ways = Ways(codes, code)
        fault = ways.fault()
        if fault is not None:
            raise InvalidCode(number, fault[0], fault[1])
        found.append(ways)
    return found


def paper_of(codes):
    """The paper of code that never goes wrong; raises InvalidCode for all else."""
    return [ways.rows() for ways in judged(codes)]


def is_paper(codes, paper):
    """Whether a thing is a paper that shows that nothing goes wrong; raises for code that has not its form."""
    check_heads(codes)
    for number in range(len(codes)):
        check_instructions(codes, number)
    if not isinstance(paper, list) or len(paper) != len(codes):
        return False
    return all([shows(codes, code, rows) for code, rows in zip(codes, paper)])


class Claim:
    """A row of a paper: what it tells of a place."""

    def __init__(self, row):
        written, rows, pending, plans, needed, rank = row
        self.state = State(set_of(written), rows_set(rows), set_of(pending), set_of(plans))
        self.needed = set_of(needed)
        self.rank = rank


def set_of(registers):
    """Registers as a set, an integer with their bits."""
    found = 0
    for at in registers:
        found = found | (1 << at)
    return found


def rows_set(rows):
    """What a row tells of the open row, as a set."""
    return (NO_ROW if False in rows else 0) | (A_ROW if True in rows else 0)


def are_registers(thing, size):
    """Whether a thing is a tuple of registers, ascending."""
    if not isinstance(thing, tuple) or not all([is_int(at) and 0 <= at < size for at in thing]):
        return False
    return all([one < other for one, other in zip(thing, thing[1:])])


def has_row_form(row, size):
    """Whether a thing has the form of a row of a paper."""
    if not isinstance(row, tuple) or len(row) != 6:
        return False
    written, rows, pending, plans, needed, rank = row
    if not all([are_registers(thing, size) for thing in (written, pending, plans, needed)]):
        return False
    if not isinstance(rows, tuple) or not all([isinstance(one, bool) for one in rows]):
        return False
    if rows not in ((False,), (True,), (False, True)):
        return False
    return is_int(rank) and 0 <= rank <= MOST_RANK


def shows(codes, code, rows):
    """Whether rows for the places of a Code show that nothing goes wrong in it."""
    if not isinstance(rows, list) or len(rows) != len(code.instructions) or rows[0] is None:
        return False
    if not all([row is None or has_row_form(row, code.size) for row in rows]):
        return False
    claims = [None if row is None else Claim(row) for row in rows]
    if not is_good_beginning(claims[0].state, code):
        return False
    return all([claims[at] is None or holds(codes, code, claims, at) for at in range(len(claims))])


def is_good_beginning(state, code):
    """Whether what is told of place 0 is true when a call begins."""
    begun = State(bits(0, code.params), NO_ROW, 0, 0)
    return state.covers(begun)


def holds(codes, code, claims, at):
    """Whether the row of a place, taken as true, shows that nothing goes wrong there and behind it."""
    part = code.instructions[at]
    claim = claims[at]
    steps = steps_from(at, part)
    if fault_of_state(codes, part, claim.state) is not None:
        return False
    for step in steps:
        target = claims[step.target]
        if target is None or not target.state.covers(state_behind(claim.state, part, step)):
            return False
        if part[0] not in COUNTING and target.rank >= claim.rank:
            return False
    needed = {step.target: claims[step.target].needed for step in steps}
    if is_dropped(part, code.lives[at], steps, needed):
        return False
    return (own_needs(codes, part) | needed_on(steps, needed)) & ~claim.needed == 0
