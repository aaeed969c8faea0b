"""[4] Float and is_number, [5] to_float and whole_of."""

import unittest

from builders import GREATEST_INT, INF, LEAST_INT, MINUS_INF, MINUS_ZERO, NAN, ZERO, written
from upvalues.code import Code
from upvalues.errors import InvalidArgument, InvalidProgram
from upvalues.numbers import Float, is_number, to_float, whole_of
from upvalues.objects import Native, Thrown

# Things of all kinds, none of which is a sign, a top or a power.
THINGS = [
    None, True, False, 1.0, 0.5, float("nan"), 1j, "", "1", "Inf", "infinity", "NaN", b"inf", b"nan", bytearray(b"x"),
    (), (1,), [], [1], {}, {1: 2}, set(), {1}, frozenset(), range(3), slice(1), object(), len, int, type, NotImplemented,
    ..., memoryview(b"x"), ValueError("x"), Thrown("inf"), InvalidProgram((), "form"), Native("inf", None), ZERO, INF,
    Code(0, False, 0, [], [], [], []),
]


def parts(number):
    return number.sign, number.top, number.power


class FloatTest(unittest.TestCase):
    def refused(self, part, *args):
        with self.assertRaises(InvalidArgument) as caught:
            Float(*args)
        self.assertEqual(caught.exception.part, part, args)

    def test_attributes_have_an_odd_top(self):
        cases = [
            ((1, 1, 0), (1, 1, 0)), ((1, 2, 0), (1, 1, 1)), ((-1, 12, -3), (-1, 3, -1)), ((1, 0, 17), (1, 0, 0)),
            ((-1, 0, -5000), (-1, 0, 0)), ((1, 2 ** 60, 0), (1, 1, 60)), ((1, 2 ** 100, -1174), (1, 1, -1074)),
            ((-1, 3 * 2 ** 2000, -2000), (-1, 3, 0)), ((1, 2 ** 53 + 2, 0), (1, 2 ** 52 + 1, 1)),
            ((1, 2 ** 60, 963), (1, 1, 1023)), ((1, "inf", 0), (1, "inf", 0)), ((-1, "inf", 0), (-1, "inf", 0)),
            ((1, "nan", 0), (1, "nan", 0)),
        ]
        for given, told in cases:
            self.assertEqual(parts(Float(*given)), told)

    def test_least_and_greatest(self):
        for sign in (1, -1):
            self.assertEqual(parts(Float(sign, 1, -1074)), (sign, 1, -1074))
            self.assertEqual(parts(Float(sign, 2 ** 53 - 1, 971)), (sign, 2 ** 53 - 1, 971))
            self.assertEqual(parts(Float(sign, 2 ** 52 - 1, -1074)), (sign, 2 ** 52 - 1, -1074))
            self.assertEqual(parts(Float(sign, 2 ** 53 - 1, -1074)), (sign, 2 ** 53 - 1, -1074))
            self.assertEqual(parts(Float(sign, 1, 1023)), (sign, 1, 1023))
            for top, power in [
                (1, -1075), (3, -1075), (1, 1024), (2 ** 53 - 1, 972), (2 ** 53 + 1, 0), (2 ** 54 + 2, 0),
                (2 ** 54 - 1, 0), (2 ** 54 - 1, 970), (2 ** 53, 971), (2 ** 1024, 0), (2, -1076), (3, 1023), (3, -1076),
            ]:
                self.refused("top", sign, top, power)

    def test_parts_of_any_size(self):
        huge = 10 ** 4000
        giant = 1 << 2000000
        self.assertEqual(parts(Float(1, 0, huge)), (1, 0, 0))
        self.assertEqual(parts(Float(1, 0, -huge)), (1, 0, 0))
        self.assertEqual(parts(Float(-1, 5 * giant, -2000000)), (-1, 5, 0))
        self.assertEqual(parts(Float(1, giant, -2001074)), (1, 1, -1074))
        for args in [(1, 1, huge), (1, 1, -huge), (1, huge, 0), (1, giant + 1, -2000000), (1, giant, -2001075),
                     (-1, giant, -1998976), (1, 3, giant), (1, 3, -giant)]:
            self.refused("top", *args)
        self.refused("sign", giant, 1, 0)
        self.refused("sign", -giant, 1, 0)
        self.refused("top", 1, -giant, 0)
        self.refused("power", 1, "inf", giant)

    def test_wrong_things(self):
        for thing in THINGS + [0, 2, -2]:
            self.refused("sign", thing, 1, 0)
        for thing in THINGS + [-1, -5, "-inf", "inf ", "0"]:
            self.refused("top", 1, thing, 0)
        for thing in THINGS:
            self.refused("power", 1, 1, thing)
            self.refused("power", 1, 0, thing)
            self.refused("power", 1, "inf", thing)
            self.refused("power", 1, "nan", thing)

    def test_order_of_the_errors(self):
        self.refused("sign", None, None, None)
        self.refused("sign", [], {}, set())
        self.refused("sign", 0, -1, 1.5)
        self.refused("top", 1, -1, None)
        self.refused("top", 1, [], [])
        self.refused("power", 1, 2 ** 53 + 1, None)
        self.refused("power", 1, 2 ** 53 + 1, True)
        self.refused("power", 1, "inf", 1)
        self.refused("power", 1, "nan", -1)
        self.refused("sign", -1, "nan", 0)
        self.refused("sign", -1, "nan", 5)
        self.refused("sign", -1, "nan", [])
        self.refused("power", -1, "inf", 2)
        self.refused("top", 1, 2 ** 53 + 1, 0)

    def test_by_name(self):
        self.assertEqual(parts(Float(power=1, top=3, sign=-1)), (-1, 3, 1))

    def test_equal(self):
        self.assertTrue(Float(1, 4, 0) == Float(1, 1, 2))
        self.assertTrue(NAN == Float(1, "nan", 0))
        self.assertTrue(INF == Float(1, "inf", 0))
        self.assertFalse(INF == MINUS_INF)
        self.assertFalse(ZERO == MINUS_ZERO)
        self.assertTrue(ZERO != MINUS_ZERO)
        self.assertFalse(Float(1, 3, 0) == Float(1, 3, 1))
        self.assertFalse(Float(1, 3, 0) == Float(1, 5, 0))
        self.assertFalse(Float(1, 3, 0) == Float(-1, 3, 0))
        self.assertFalse(Float(1, 3, 0) != Float(1, 3, 0))

    def test_nothing_else_is_equal(self):
        for one in (ZERO, Float(1, 1, 0), INF, NAN):
            for thing in [thing for thing in THINGS if not isinstance(thing, Float)] + [0, 1, (1, 1, 0), "inf", "nan"]:
                self.assertFalse(one == thing)
                self.assertFalse(thing == one)
                self.assertTrue(one != thing)

    def test_it_has_its_own_methods(self):
        self.assertIn("__eq__", vars(Float))
        self.assertIn("__init__", vars(Float))

    def test_is_number(self):
        for thing in (0, 1, -1, 2 ** 63, -(2 ** 64), 10 ** 1000, ZERO, INF, NAN, Float(-1, 3, 7)):
            self.assertIs(is_number(thing), True)
        for thing in THINGS:
            if not isinstance(thing, Float):
                self.assertIs(is_number(thing), False)
        self.assertIs(is_number(thing=5), True)


class ToFloatTest(unittest.TestCase):
    def test_small_ints_are_exact(self):
        for number in [*range(-300, 300), 2 ** 53, -(2 ** 53), 2 ** 53 - 1, 2 ** 62, LEAST_INT, 2 ** 60 + 2 ** 8]:
            found = to_float(number)
            self.assertEqual(found.sign * (found.top << found.power), number)
            self.assertEqual(written(found), written(to_float(number=number)))

    def test_zero(self):
        self.assertEqual(written(to_float(0)), ("float", 1, 0, 0))

    def test_ties_go_to_even(self):
        cases = [
            (2 ** 53 + 1, 2 ** 53), (2 ** 53 + 2, 2 ** 53 + 2), (2 ** 53 + 3, 2 ** 53 + 4), (2 ** 53 + 5, 2 ** 53 + 4),
            (2 ** 54 + 2, 2 ** 54), (2 ** 54 + 3, 2 ** 54 + 4), (2 ** 54 + 1, 2 ** 54), (2 ** 54 + 6, 2 ** 54 + 8),
            (2 ** 54 - 1, 2 ** 54), (GREATEST_INT, 2 ** 63), (GREATEST_INT - 511, 2 ** 63),
            (GREATEST_INT - 512, 2 ** 63 - 1024), (GREATEST_INT - 511 - 1024, 2 ** 63 - 2048),
        ]
        for number, nearest in cases:
            self.assertEqual(to_float(number), to_float(nearest), number)
            self.assertEqual(to_float(-number), to_float(-nearest), number)
            self.assertEqual(whole_of(to_float(-number)), -nearest)

    def test_as_python_does(self):
        for number in [10 ** 18 + k for k in range(-70, 70)] + [3 ** 39, 7 ** 22, -(5 ** 27)]:
            top, bottom = float(number).as_integer_ratio()
            self.assertEqual(whole_of(to_float(number)) * bottom, top)

    def test_very_great_ints_are_rounded_too(self):
        self.assertEqual(to_float(2 ** 1024), INF)
        self.assertEqual(to_float(-(2 ** 1024)), MINUS_INF)
        self.assertEqual(to_float(2 ** 1024 - 2 ** 970), INF)
        self.assertEqual(to_float(2 ** 1024 - 2 ** 970 - 1), Float(1, 2 ** 53 - 1, 971))

    def test_floats_stay(self):
        for number in (ZERO, MINUS_ZERO, INF, MINUS_INF, NAN, Float(1, 1, -1074)):
            self.assertEqual(to_float(number), number)


class WholeOfTest(unittest.TestCase):
    def test_ints(self):
        for number in (0, 1, -1, LEAST_INT, GREATEST_INT):
            self.assertEqual(written(whole_of(number)), ("int", number))
        self.assertIsNone(whole_of(GREATEST_INT + 1))
        self.assertIsNone(whole_of(LEAST_INT - 1))

    def test_floats(self):
        cases = [
            (ZERO, 0), (MINUS_ZERO, 0), (Float(1, 5, 0), 5), (Float(-1, 3, 2), -12), (Float(1, 1, 62), 2 ** 62),
            (Float(-1, 1, 63), LEAST_INT), (Float(1, 2 ** 53 - 1, 10), 2 ** 63 - 1024), (Float(1, 2 ** 52, 0), 2 ** 52),
        ]
        for number, whole in cases:
            self.assertEqual(written(whole_of(number)), ("int", whole))
        self.assertEqual(whole_of(number=Float(1, 3, 0)), 3)

    def test_none(self):
        for number in (
            Float(1, 1, 63), Float(-1, 2 ** 52 + 1, 11), Float(1, 1, -1), Float(-1, 3, -1), Float(1, 1, -1074), INF,
            MINUS_INF, NAN, Float(1, 2 ** 53 - 1, 971), Float(1, 2 ** 53 - 1, -1), Float(-1, 1, 64),
        ):
            self.assertIsNone(whole_of(number))


if __name__ == "__main__":
    unittest.main()
