"""Reckoning with floats that are written as tuples (sign, top, power).

Such a tuple is the number sign * top * 2 ** power; top is "inf" or "nan" for what is no
number. These tuples stand below the class Float, which only checks and holds them.
"""

LENGTH = 53
LEAST_POWER = -1074
BEYOND_POWER = 1024
NAN = (1, "nan", 0)


def odd_form(sign, top, power):
    """The same number with an odd top, or with top 0 and power 0."""
    if top == 0:
        return sign, 0, 0
    zeros = (top & -top).bit_length() - 1
    return sign, top >> zeros, power + zeros


def is_float(top, power):
    """Whether a number in its odd form is a float."""
    return top.bit_length() <= LENGTH and power >= LEAST_POWER and top.bit_length() + power <= BEYOND_POWER


def cut_to_even(top, drop):
    """top without its last bits, rounded to the nearest, or of two as near to the even one."""
    kept = top >> drop
    rest = top - (kept << drop)
    half = 1 << (drop - 1)
    if rest > half or (rest == half and kept & 1):
        return kept + 1
    return kept


def rounded(sign, top, power):
    """The float that is nearest to a number with a top of any length."""
    length = top.bit_length()
    drop = max(length - LENGTH, LEAST_POWER - power)
    if drop > length:
        return sign, 0, 0
    if drop > 0:
        top = cut_to_even(top, drop)
        power = power + drop
    if top.bit_length() + power > BEYOND_POWER:
        return sign, "inf", 0
    return odd_form(sign, top, power)


def aligned(one, other):
    """Two finite numbers as integers over one power of 2, and this power."""
    power = min(one[2], other[2])
    first = (one[0] * one[1]) << (one[2] - power)
    second = (other[0] * other[1]) << (other[2] - power)
    return first, second, power


def has_nan(one, other):
    """Whether one of the two is nan."""
    return one[1] == "nan" or other[1] == "nan"


def total(one, other):
    """The sum of two floats."""
    if has_nan(one, other):
        return NAN
    if one[1] == "inf":
        return NAN if other[1] == "inf" and one[0] != other[0] else one
    if other[1] == "inf":
        return other
    first, second, power = aligned(one, other)
    exact = first + second
    if exact == 0:
        # Two numbers below 0 have the sum 0 only if both are -0.0.
        return (-1 if one[0] < 0 and other[0] < 0 else 1), 0, 0
    return rounded(1 if exact > 0 else -1, abs(exact), power)


def opposite(one):
    """The float with the other sign; nan has none."""
    if one[1] == "nan":
        return one
    return -one[0], one[1], one[2]


def difference(one, other):
    """One float less another."""
    return total(one, opposite(other))


def product(one, other):
    """The product of two floats."""
    if has_nan(one, other):
        return NAN
    sign = one[0] * other[0]
    if one[1] == "inf" or other[1] == "inf":
        return NAN if one[1] == 0 or other[1] == 0 else (sign, "inf", 0)
    return rounded(sign, one[1] * other[1], one[2] + other[2])


def quotient(one, other):
    """One float divided by another."""
    if has_nan(one, other) or (one[1] == other[1] and one[1] in ("inf", 0)):
        return NAN
    sign = one[0] * other[0]
    if one[1] == "inf" or other[1] == 0:
        return sign, "inf", 0
    if other[1] == "inf":
        return sign, 0, 0
    shift = max(0, LENGTH + 2 + other[1].bit_length() - one[1].bit_length())
    whole, rest = divmod(one[1] << shift, other[1])
    # One bit more tells whether something is left, so that what is no tie is not taken for one.
    return rounded(sign, 2 * whole + (1 if rest else 0), one[2] - other[2] - shift - 1)


def floored(one):
    """The greatest whole float that is not above a float."""
    sign, top, power = one
    if power >= 0:
        return one
    # A shift of an integer below 0 goes down, not towards 0.
    whole = (sign * top) >> -power
    return odd_form(sign, abs(whole), 0)


def floor_quotient(one, other):
    """One float divided by another, rounded, then taken down to a whole one."""
    return floored(quotient(one, other))


def modulo(one, other):
    """What is left of one float divided by another, with the other's sign."""
    if has_nan(one, other) or one[1] == "inf" or other[1] == 0:
        return NAN
    left = one
    if other[1] != "inf":
        first, second, power = aligned(one, other)
        left = odd_form(one[0], abs(first) % abs(second), power)
    if left[1] == 0 or left[0] == other[0]:
        return left
    return total(left, other)


def is_less(one, other):
    """Whether one number is less than another; tops of any length, no nan."""
    if one[1] == "inf" or other[1] == "inf":
        return side_of(one) < side_of(other)
    first, second, _ = aligned(one, other)
    return first < second


def side_of(one):
    """-1 or 1 for the infinities, 0 for all that lies between them."""
    return one[0] if one[1] == "inf" else 0


RECKONINGS = {
    "add": total,
    "sub": difference,
    "mul": product,
    "div": quotient,
    "floor": floor_quotient,
    "mod": modulo,
}


def reckoned(word, one, other):
    """What an operator makes of two floats."""
    act = RECKONINGS[word]
    return act(one, other)
