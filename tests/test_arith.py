"""[6] arith, [7] floor and mod of floats, negated, bit_not."""

import math
import random
import struct
import unittest

from builders import GREATEST_INT, INF, LEAST_INT, MINUS_INF, MINUS_ZERO, NAN, ZERO, real, written
from upvalues.numbers import Float, arith, bit_not, negated, to_float
from upvalues.objects import Thrown

BITS = ("band", "bor", "bxor", "shl", "shr")
WORDS = ("add", "sub", "mul", "floor", "mod", "div") + BITS
LEAST = Float(1, 1, -1074)
GREATEST = Float(1, 2 ** 53 - 1, 971)
NO_INTEGER = "number has no integer representation"


def wrapped(number):
    number %= 2 ** 64
    return number - 2 ** 64 if number >= 2 ** 63 else number


def quotient(one, other):
    """Division of Python's floats, also by 0."""
    if other != 0:
        return one / other
    if one == 0 or math.isnan(one) or math.isnan(other):
        return math.nan
    return math.copysign(math.inf, one) * math.copysign(1, other)


def floored(one, other):
    found = quotient(one, other)
    if found == 0 or math.isnan(found) or math.isinf(found):
        return found
    return float(math.floor(found))


def modulo(one, other):
    if math.isnan(one) or math.isnan(other) or math.isinf(one) or other == 0:
        return math.nan
    left = math.fmod(one, other)
    if left != 0 and (left < 0) != (other < 0):
        left += other
    return left


FLOAT_WORDS = {
    "add": lambda one, other: one + other,
    "sub": lambda one, other: one - other,
    "mul": lambda one, other: one * other,
    "div": quotient,
    "floor": floored,
    "mod": modulo,
}


class ArithTest(unittest.TestCase):
    def check(self, word, one, other, result):
        self.assertEqual(written(arith(word, one, other)), written(result), (word, written(one), written(other)))

    def thrown(self, text, ask, *args):
        with self.assertRaises(Thrown) as caught:
            ask(*args)
        self.assertEqual(caught.exception.value, text, args)


class IntsTest(ArithTest):
    def test_ordinary(self):
        for word, result in [
            ("add", 10), ("sub", 4), ("mul", 21), ("floor", 2), ("mod", 1), ("div", Float(1, 5254199565265579, -51)),
            ("band", 3), ("bor", 7), ("bxor", 4), ("shl", 56), ("shr", 0),
        ]:
            self.check(word, 7, 3, result)
        self.assertEqual(arith(word="add", one=1, other=2), 3)

    def test_wrapped(self):
        for word, one, other, result in [
            ("add", GREATEST_INT, 1, LEAST_INT), ("add", GREATEST_INT, GREATEST_INT, -2), ("add", LEAST_INT, -1, GREATEST_INT),
            ("add", LEAST_INT, LEAST_INT, 0), ("sub", LEAST_INT, 1, GREATEST_INT), ("sub", 0, LEAST_INT, LEAST_INT),
            ("sub", GREATEST_INT, -1, LEAST_INT), ("mul", 2 ** 32, 2 ** 32, 0), ("mul", 2 ** 32, 2 ** 31, LEAST_INT),
            ("mul", LEAST_INT, -1, LEAST_INT), ("mul", LEAST_INT, LEAST_INT, 0), ("mul", GREATEST_INT, GREATEST_INT, 1),
            ("floor", LEAST_INT, -1, LEAST_INT), ("floor", LEAST_INT, 1, LEAST_INT), ("mod", LEAST_INT, -1, 0),
            ("mod", LEAST_INT, GREATEST_INT, GREATEST_INT - 1), ("mod", GREATEST_INT, LEAST_INT, -1),
            ("add", GREATEST_INT, 0, GREATEST_INT), ("add", LEAST_INT, 0, LEAST_INT),
        ]:
            self.check(word, one, other, result)

    def test_unlike_signs(self):
        for one, other, down, left in [
            (7, 3, 2, 1), (-7, 3, -3, 2), (7, -3, -3, -2), (-7, -3, 2, -1), (6, -3, -2, 0), (-6, 3, -2, 0), (1, -5, -1, -4),
            (0, -5, 0, 0), (-1, GREATEST_INT, -1, GREATEST_INT - 1), (1, LEAST_INT, -1, LEAST_INT + 1),
        ]:
            self.check("floor", one, other, down)
            self.check("mod", one, other, left)

    def test_by_zero(self):
        for number in (0, 5, -5, LEAST_INT):
            self.thrown("attempt to perform 'n//0'", arith, "floor", number, 0)
            self.thrown("attempt to perform 'n mod 0'", arith, "mod", number, 0)

    def test_div_is_of_floats(self):
        for one, other, result in [
            (6, 3, Float(1, 1, 1)), (1, 2, Float(1, 1, -1)), (1, 0, INF), (-1, 0, MINUS_INF), (0, 0, NAN), (0, 5, ZERO),
            (0, -5, MINUS_ZERO), (GREATEST_INT, 1, Float(1, 1, 63)), (LEAST_INT, -1, Float(1, 1, 63)),
            (2 ** 53 + 1, 1, Float(1, 1, 53)), (GREATEST_INT, GREATEST_INT - 1, Float(1, 1, 0)),
        ]:
            self.check("div", one, other, result)

    def test_many(self):
        chance = random.Random(6)
        for _ in range(3000):
            one = chance.choice([chance.randint(-50, 50), chance.randint(LEAST_INT, GREATEST_INT)])
            other = chance.choice([chance.randint(-50, 50), chance.randint(LEAST_INT, GREATEST_INT)])
            self.check("add", one, other, wrapped(one + other))
            self.check("sub", one, other, wrapped(one - other))
            self.check("mul", one, other, wrapped(one * other))
            if other != 0:
                self.check("floor", one, other, wrapped(one // other))
                self.check("mod", one, other, one - other * (one // other))
                self.check("div", one, other, real(float(one) / float(other)))


class BitsTest(ArithTest):
    def test_words(self):
        for one, other in [(12, 10), (-1, 5), (LEAST_INT, -1), (LEAST_INT, GREATEST_INT), (0, -7), (-2, -3)]:
            first, second = one % 2 ** 64, other % 2 ** 64
            self.check("band", one, other, wrapped(first & second))
            self.check("bor", one, other, wrapped(first | second))
            self.check("bxor", one, other, wrapped(first ^ second))

    def test_shifts_by_all_amounts(self):
        for number in (1, -1, 5, 0, LEAST_INT, GREATEST_INT, -(2 ** 40) + 7):
            plain = number % 2 ** 64
            for many in range(0, 70):
                left = wrapped(plain << many) if many < 64 else 0
                right = wrapped(plain >> many)
                self.check("shl", number, many, left)
                self.check("shr", number, -many, left)
                self.check("shr", number, many, right)
                self.check("shl", number, -many, right)
            for many in (64, 65, 1000, 2 ** 40, GREATEST_INT, LEAST_INT, -64, -65, -GREATEST_INT):
                self.check("shl", number, many, 0)
                self.check("shr", number, many, 0)

    def test_some_shifts(self):
        for word, one, other, result in [
            ("shl", 1, 63, LEAST_INT), ("shl", 1, 62, 2 ** 62), ("shr", -1, 1, GREATEST_INT), ("shr", -1, 63, 1),
            ("shr", -1, 0, -1), ("shl", -1, 0, -1), ("shl", -1, 1, -2), ("shl", 3, 63, LEAST_INT), ("shl", -1, -63, 1),
        ]:
            self.check(word, one, other, result)

    def test_whole_floats(self):
        for word in BITS:
            result = arith(word, 12, 2)
            self.check(word, Float(1, 3, 2), 2, result)
            self.check(word, 12, Float(1, 1, 1), result)
            self.check(word, Float(1, 3, 2), Float(1, 1, 1), result)
        self.check("bor", MINUS_ZERO, 0, 0)
        self.check("band", Float(-1, 1, 63), -1, LEAST_INT)

    def test_no_integer(self):
        for word in BITS:
            for number in (Float(1, 1, -1), INF, MINUS_INF, NAN, Float(1, 1, 63), LEAST, GREATEST):
                self.thrown(NO_INTEGER, arith, word, number, 1)
                self.thrown(NO_INTEGER, arith, word, 1, number)
                self.thrown(NO_INTEGER, arith, word, number, number)
                self.thrown(NO_INTEGER, arith, word, number, 64)


class FloatsTest(ArithTest):
    def test_mixed(self):
        half = Float(1, 1, -1)
        for word, one, other, result in [
            ("add", 1, half, Float(1, 3, -1)), ("add", half, 1, Float(1, 3, -1)), ("sub", 1, half, half),
            ("mul", 3, half, Float(1, 3, -1)), ("div", half, 2, Float(1, 1, -2)), ("floor", 7, Float(1, 1, 1), Float(1, 3, 0)),
            ("mod", 7, Float(1, 1, 1), Float(1, 1, 0)), ("add", 1, Float(1, 1, 0), Float(1, 1, 1)),
            ("add", GREATEST_INT, ZERO, Float(1, 1, 63)), ("mul", 0, Float(-1, 5, 0), MINUS_ZERO),
            ("sub", 2 ** 53 + 1, Float(1, 1, 53), ZERO), ("floor", 7, ZERO, INF), ("mod", 7, ZERO, NAN),
        ]:
            self.check(word, one, other, result)

    def test_ties_go_to_even(self):
        great = Float(1, 1, 53)
        for word, one, other, result in [
            ("add", great, Float(1, 1, 0), great), ("add", great, Float(1, 3, 0), Float(1, 2 ** 51 + 1, 2)),
            ("sub", great, Float(1, 1, -1), great), ("sub", great, Float(1, 1, 0), Float(1, 2 ** 53 - 1, 0)),
            ("add", great, Float(1, 2 ** 50 + 1, -50), Float(1, 2 ** 52 + 1, 1)),
            ("mul", Float(1, 2 ** 27 + 1, 0), Float(1, 2 ** 27 + 1, 0), Float(1, 2 ** 26 + 1, 28)),
            ("mul", Float(1, 2 ** 27 + 1, 0), Float(1, 2 ** 26 + 1, 0), Float(1, 9007199456067584, 0)),
        ]:
            self.check(word, one, other, result)
        # 1 divided by 3 is a little more than a float with a last bit of 1, and less than the middle behind it.
        self.check("div", 1, 3, Float(1, 6004799503160661, -54))
        self.check("div", 2, 3, Float(1, 6004799503160661, -53))

    def test_below_the_least_normal(self):
        for word, one, other, result in [
            ("div", LEAST, 2, ZERO), ("div", Float(-1, 1, -1074), 2, MINUS_ZERO), ("div", Float(1, 3, -1074), 2, Float(1, 1, -1073)),
            ("div", Float(1, 5, -1074), 2, Float(1, 1, -1073)), ("mul", LEAST, LEAST, ZERO),
            ("mul", LEAST, Float(-1, 1, -1074), MINUS_ZERO), ("mul", LEAST, Float(1, 3, -2), LEAST),
            ("mul", Float(1, 3, -1074), Float(1, 1, -2), LEAST), ("mul", Float(1, 1, -1022), Float(1, 1, -52), LEAST),
            ("mul", Float(1, 1, -1022), Float(1, 1, -53), ZERO), ("mul", Float(1, 3, -1023), Float(1, 1, -52), Float(1, 1, -1073)),
            ("sub", Float(1, 1, -1022), LEAST, Float(1, 2 ** 52 - 1, -1074)), ("add", LEAST, LEAST, Float(1, 1, -1073)),
            ("sub", LEAST, LEAST, ZERO), ("div", LEAST, GREATEST, ZERO), ("div", LEAST, Float(-1, 1, 1023), MINUS_ZERO),
            ("mul", Float(1, 2 ** 53 - 1, -1074), Float(1, 1, -1), Float(1, 1, -1022)),
        ]:
            self.check(word, one, other, result)

    def test_beyond_the_greatest(self):
        for word, one, other, result in [
            ("add", GREATEST, GREATEST, INF), ("mul", GREATEST, 2, INF), ("mul", GREATEST, -2, MINUS_INF),
            ("add", GREATEST, Float(1, 1, 969), GREATEST), ("add", GREATEST, Float(1, 1, 970), INF),
            ("add", GREATEST, Float(1, 2 ** 53 - 1, 917), GREATEST), ("sub", negated(GREATEST), Float(1, 1, 970), MINUS_INF),
            ("div", GREATEST, LEAST, INF), ("div", GREATEST, Float(1, 1, -1), INF), ("add", GREATEST, 1, GREATEST),
            ("floor", GREATEST, Float(-1, 1, -1), MINUS_INF), ("mul", Float(1, 1, 1023), 2, INF),
        ]:
            self.check(word, one, other, result)

    def test_nan(self):
        for word in FLOAT_WORDS:
            for number in (0, 5, ZERO, INF, MINUS_INF, NAN, LEAST):
                self.check(word, NAN, number, NAN)
                self.check(word, number, NAN, NAN)

    def test_infinities(self):
        for word, one, other, result in [
            ("add", INF, INF, INF), ("add", INF, MINUS_INF, NAN), ("add", MINUS_INF, INF, NAN),
            ("add", MINUS_INF, MINUS_INF, MINUS_INF), ("sub", INF, INF, NAN), ("sub", INF, MINUS_INF, INF),
            ("add", INF, -5, INF), ("add", 5, MINUS_INF, MINUS_INF), ("sub", 5, INF, MINUS_INF), ("mul", INF, 0, NAN),
            ("mul", MINUS_ZERO, INF, NAN), ("mul", INF, -5, MINUS_INF), ("mul", MINUS_INF, MINUS_INF, INF),
            ("mul", LEAST, INF, INF), ("div", INF, INF, NAN), ("div", INF, MINUS_INF, NAN), ("div", INF, -5, MINUS_INF),
            ("div", INF, 0, INF), ("div", INF, MINUS_ZERO, MINUS_INF), ("div", 5, INF, ZERO), ("div", -5, INF, MINUS_ZERO),
            ("div", 0, MINUS_INF, MINUS_ZERO), ("div", 5, MINUS_ZERO, MINUS_INF), ("div", -5, MINUS_ZERO, INF),
            ("div", -5, ZERO, MINUS_INF), ("div", ZERO, MINUS_ZERO, NAN), ("div", LEAST, 0, INF),
        ]:
            self.check(word, one, other, result)

    def test_signs_of_zero(self):
        for word, one, other, result in [
            ("add", ZERO, ZERO, ZERO), ("add", ZERO, MINUS_ZERO, ZERO), ("add", MINUS_ZERO, ZERO, ZERO),
            ("add", MINUS_ZERO, MINUS_ZERO, MINUS_ZERO), ("sub", MINUS_ZERO, ZERO, MINUS_ZERO), ("sub", ZERO, ZERO, ZERO),
            ("sub", MINUS_ZERO, MINUS_ZERO, ZERO), ("sub", Float(-1, 3, 0), Float(-1, 3, 0), ZERO),
            ("add", Float(-1, 3, 0), Float(1, 3, 0), ZERO), ("add", 0, MINUS_ZERO, ZERO), ("mul", ZERO, Float(-1, 3, 0), MINUS_ZERO),
            ("mul", MINUS_ZERO, Float(-1, 3, 0), ZERO), ("mul", MINUS_ZERO, MINUS_ZERO, ZERO), ("div", ZERO, -3, MINUS_ZERO),
            ("div", MINUS_ZERO, -3, ZERO), ("div", MINUS_ZERO, INF, MINUS_ZERO),
        ]:
            self.check(word, one, other, result)

    def test_floor(self):
        for one, other, result in [
            (Float(1, 7, 0), 2, Float(1, 3, 0)), (Float(-1, 7, 0), 2, Float(-1, 1, 2)), (Float(1, 1, -1), 1, ZERO),
            (Float(-1, 1, -1), 1, Float(-1, 1, 0)), (LEAST, 1, ZERO), (Float(-1, 1, -1074), 1, Float(-1, 1, 0)),
            (MINUS_ZERO, 1, MINUS_ZERO), (ZERO, -1, MINUS_ZERO), (ZERO, 1, ZERO), (Float(1, 5, 0), 0, INF), (-5, ZERO, MINUS_INF),
            (0, ZERO, NAN), (INF, 1, INF), (INF, INF, NAN), (1, INF, ZERO), (-1, INF, MINUS_ZERO), (GREATEST, 1, GREATEST),
            (Float(1, 2 ** 53 - 1, -1), 1, Float(1, 2 ** 52 - 1, 0)), (Float(-1, 2 ** 53 - 1, -1), 1, Float(-1, 1, 52)),
            (Float(1, 3, 0), Float(1, 3, 0), Float(1, 1, 0)), (Float(-1, 6, 0), 3, Float(-1, 1, 1)),
        ]:
            self.check("floor", one, other, result)
        # The quotient is rounded ahead of being taken down: 1 by 0.1 is 10.
        self.check("floor", 1, real(0.1), Float(1, 5, 1))

    def test_mod(self):
        for one, other, result in [
            (Float(1, 7, 0), 3, Float(1, 1, 0)), (Float(-1, 7, 0), 3, Float(1, 1, 1)), (Float(1, 7, 0), -3, Float(-1, 1, 1)),
            (Float(-1, 7, 0), -3, Float(-1, 1, 0)), (Float(1, 6, 0), -3, ZERO), (Float(-1, 6, 0), 3, MINUS_ZERO),
            (MINUS_ZERO, 3, MINUS_ZERO), (MINUS_ZERO, -3, MINUS_ZERO), (ZERO, -3, ZERO), (MINUS_ZERO, INF, MINUS_ZERO),
            (5, INF, Float(1, 5, 0)), (-5, MINUS_INF, Float(-1, 5, 0)), (-1, INF, INF), (1, MINUS_INF, MINUS_INF),
            (INF, 3, NAN), (MINUS_INF, INF, NAN), (5, ZERO, NAN), (5, MINUS_ZERO, NAN), (ZERO, ZERO, NAN), (INF, 0, NAN),
            (GREATEST, LEAST, ZERO), (GREATEST, 3, Float(1, 1, 1)), (LEAST, GREATEST, LEAST), (LEAST, -1, Float(-1, 1, 0)),
            (Float(-1, 1, -1074), 1, Float(1, 1, 0)), (Float(1, 11, -1), 2, Float(1, 3, -1)), (Float(-1, 11, -1), 2, Float(1, 1, -1)),
        ]:
            self.check("mod", one, other, result)

    def test_as_python_does(self):
        chance = random.Random(7)
        edges = [0.0, -0.0, math.inf, -math.inf, math.nan, 1.0, -1.0, 5e-324, -5e-324, 2.2250738585072014e-308,
                 2.225073858507201e-308, 1.7976931348623157e308, -1.7976931348623157e308, 0.1, 3.0, 2.0 ** 53]
        def any_float():
            return chance.choice([
                chance.choice(edges),
                struct.unpack("<d", chance.randbytes(8))[0],
                float(chance.randint(-12, 12)),
                chance.uniform(-5, 5),
                math.ldexp(chance.choice([1, -1]) * chance.random(), chance.randint(-1080, -1000)),
            ])
        for _ in range(6000):
            one, other = any_float(), any_float()
            for word, act in FLOAT_WORDS.items():
                self.check(word, real(one), real(other), real(act(one, other)))


class NegatedTest(ArithTest):
    def test_negated(self):
        for number, result in [
            (0, 0), (5, -5), (-5, 5), (GREATEST_INT, -GREATEST_INT), (LEAST_INT, LEAST_INT), (ZERO, MINUS_ZERO),
            (MINUS_ZERO, ZERO), (INF, MINUS_INF), (MINUS_INF, INF), (NAN, NAN), (Float(1, 3, -2), Float(-1, 3, -2)),
            (Float(-1, 1, 63), Float(1, 1, 63)),
        ]:
            self.assertEqual(written(negated(number)), written(result))
        self.assertEqual(negated(number=7), -7)

    def test_bit_not(self):
        for number, result in [
            (0, -1), (-1, 0), (5, -6), (GREATEST_INT, LEAST_INT), (LEAST_INT, GREATEST_INT), (Float(1, 3, 1), -7),
            (MINUS_ZERO, -1), (Float(-1, 1, 63), GREATEST_INT),
        ]:
            self.assertEqual(written(bit_not(number)), written(result))
        self.assertEqual(bit_not(number=1), -2)
        for number in (Float(1, 1, -1), INF, NAN, MINUS_INF, Float(1, 1, 63), LEAST):
            self.thrown(NO_INTEGER, bit_not, number)

    def test_arguments_stay(self):
        one, other = Float(1, 3, -1), Float(-1, 5, 2)
        for word in WORDS[:6]:
            arith(word, one, other)
        negated(one)
        to_float(one)
        self.assertEqual((written(one), written(other)), (("float", 1, 3, -1), ("float", -1, 5, 2)))


if __name__ == "__main__":
    unittest.main()
