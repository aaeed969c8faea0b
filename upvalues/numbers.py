"""Numbers: integers of 64 bits and floats, their operators, and the rounds of numeric loops."""

from upvalues.errors import InvalidArgument
from upvalues.floats import is_float, is_less, odd_form, opposite, reckoned, rounded
from upvalues.ints import BIT_WORDS, bits_reckoned, fits, int_reckoned, is_int, wrapped
from upvalues.objects import Kinded, Thrown


class Float(Kinded):
    """The float sign * top * 2 ** power, an infinity (top "inf"), or nan (top "nan")."""

    KIND = "number"

    def __init__(self, sign, top, power):
        check_float_parts(sign, top, power)
        if is_int(top):
            sign, top, power = odd_form(sign, top, power)
            if not is_float(top, power):
                raise InvalidArgument("top")
        self.sign = sign
        self.top = top
        self.power = power

    def __eq__(self, other):
        return (
            isinstance(other, Float)
            and self.sign == other.sign
            and self.top == other.top
            and self.power == other.power
        )


def check_float_parts(sign, top, power):
    """Raises for the first part that no float can have."""
    is_word = isinstance(top, str) and top in ("inf", "nan")
    if not is_int(sign) or sign not in (1, -1) or (sign == -1 and is_word and top == "nan"):
        raise InvalidArgument("sign")
    if not is_word and (not is_int(top) or top < 0):
        raise InvalidArgument("top")
    if not is_int(power) or (is_word and power != 0):
        raise InvalidArgument("power")


def is_number(thing):
    """Whether a thing is an integer, of any size, or a Float; a boolean is none."""
    return is_int(thing) or isinstance(thing, Float)


def parts_of_number(number):
    """A number's sign, top and power; for an integer, exactly."""
    if isinstance(number, Float):
        return number.sign, number.top, number.power
    return (-1 if number < 0 else 1), abs(number), 0


def to_float(number):
    """The Float that is nearest to a number."""
    if isinstance(number, Float):
        return number
    sign, top, power = parts_of_number(number)
    nearest = rounded(sign, top, power)
    return Float(*nearest)


def whole_of(number):
    """The integer of 64 bits that a number is by value, or None."""
    if not isinstance(number, Float):
        return number if fits(number) else None
    if not is_int(number.top) or number.power < 0:
        return None
    whole = number.sign * (number.top << number.power)
    return whole if fits(whole) else None


def bits_of(number):
    """The integer that an operator on bits takes a number for."""
    whole = whole_of(number)
    if whole is None:
        raise Thrown("number has no integer representation")
    return whole


def arith(word, one, other):
    """What an operator makes of two numbers."""
    if word in BIT_WORDS:
        return bits_reckoned(word, bits_of(one), bits_of(other))
    if word != "div" and is_int(one) and is_int(other):
        return int_reckoned(word, one, other)
    first = parts_of_number(to_float(one))
    second = parts_of_number(to_float(other))
    found = reckoned(word, first, second)
    return Float(*found)


def negated(number):
    """A number taken from 0: an integer wrapped, a Float with the other sign, nan itself."""
    if is_int(number):
        return wrapped(-number)
    turned = opposite(parts_of_number(number))
    return Float(*turned)


def bit_not(number):
    """The number with all bits turned."""
    return -1 - bits_of(number)


def is_nan(number):
    """Whether a number is nan."""
    return isinstance(number, Float) and number.top == "nan"


def compare(word, one, other):
    """Whether one number is less than another ("lt"), or not greater ("le"), by exact value."""
    if is_int(one) and is_int(other):
        return one < other if word == "lt" else one <= other
    if is_nan(one) or is_nan(other):
        return False
    if word == "lt":
        return is_less(parts_of_number(one), parts_of_number(other))
    return not is_less(parts_of_number(other), parts_of_number(one))


def same(one, other):
    """Whether two values are equal without any event: numbers by value, objects if they are one."""
    if is_number(one) and is_number(other):
        return compare("le", one, other) and compare("le", other, one)
    if is_number(one) or is_number(other):
        return False
    return one == other


class Plan:
    """The rounds of a numeric loop, of three integers or three Floats, from the first one on."""

    def __init__(self, start, limit, step):
        self.value = start
        self.limit = limit
        self.step = step

    def is_round(self, value):
        """Whether a round may have this value, so that it is not beyond the limit."""
        if compare("lt", 0, self.step):
            return compare("le", value, self.limit)
        return compare("le", self.limit, value)

    def goes_on(self):
        """Goes over to the next round, and tells whether there is one."""
        if is_int(self.step):
            following = self.value + self.step
            if not fits(following):
                return False
        else:
            following = arith("add", self.value, self.step)
        if not self.is_round(following):
            return False
        self.value = following
        return True


def for_plan(start, limit, step):
    """The plan of a numeric loop, or None if it has no round."""
    if is_int(start) and is_int(step):
        check_step(step)
        check_loop_number(limit, "limit")
    else:
        check_loop_number(limit, "limit")
        check_loop_number(step, "step")
        check_loop_number(start, "initial value")
        start, limit, step = to_float(start), to_float(limit), to_float(step)
        check_step(step)
    plan = Plan(start, limit, step)
    # A step that is nan would not show in the first round.
    if is_nan(step) or not plan.is_round(start):
        return None
    return plan


def check_loop_number(value, part):
    """Raises if a value of a numeric loop is no number."""
    if not is_number(value):
        raise Thrown(f"'for' {part} must be a number")


def check_step(step):
    """Raises if the step of a numeric loop is 0."""
    if same(step, 0):
        raise Thrown("'for' step is zero")
