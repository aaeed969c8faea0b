"""Reckoning with integers of 64 bits."""

from upvalues.objects import Thrown

GREATEST = 2 ** 63 - 1
LEAST = -2 ** 63
ONES = 2 ** 64 - 1
BITS = 64
BIT_WORDS = ("band", "bor", "bxor", "shl", "shr")


def is_int(thing):
    """Whether a thing is an integer, of any size; a boolean is none."""
    return isinstance(thing, int) and not isinstance(thing, bool)


def fits(number):
    """Whether an integer is one of 64 bits."""
    return LEAST <= number <= GREATEST


def wrapped(number):
    """An integer taken into the range of 64 bits."""
    return ((number - LEAST) & ONES) + LEAST


def int_reckoned(word, one, other):
    """What an operator that is none on bits makes of two integers."""
    if word == "add":
        return wrapped(one + other)
    if word == "sub":
        return wrapped(one - other)
    if word == "mul":
        return wrapped(one * other)
    if word == "floor":
        return floor_of_ints(one, other)
    return mod_of_ints(one, other)


def floor_of_ints(one, other):
    """The quotient of two integers, taken down."""
    if other == 0:
        raise Thrown("attempt to perform 'n//0'")
    return wrapped(one // other)


def mod_of_ints(one, other):
    """What is left of one integer divided by another, with the other's sign."""
    if other == 0:
        raise Thrown("attempt to perform 'n mod 0'")
    return one % other


def bits_reckoned(word, one, other):
    """What an operator on bits makes of two integers."""
    if word == "band":
        return one & other
    if word == "bor":
        return one | other
    if word == "bxor":
        return one ^ other
    return shifted(one, other if word == "shl" else -other)


def shifted(one, many):
    """An integer shifted to the left, or to the right by a number below 0; zeros come in."""
    if many >= BITS or many <= -BITS:
        return 0
    if many >= 0:
        return wrapped(one << many)
    # Only a shift by at least one place takes the sign's bit away from the highest place.
    return (one & ONES) >> -many
