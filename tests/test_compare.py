"""[8] compare and same."""

import random
import unittest
from fractions import Fraction

from builders import GREATEST_INT, INF, LEAST_INT, MINUS_INF, MINUS_ZERO, NAN, ZERO, written
from upvalues.numbers import Float, compare, same, to_float
from upvalues.objects import Native

LEAST = Float(1, 1, -1074)
GREATEST = Float(1, 2 ** 53 - 1, 971)


class CompareTest(unittest.TestCase):
    def check(self, one, other, sign):
        """sign is -1, 0 or 1 for less, equal, greater, or None where nothing holds."""
        told = (written(one), written(other))
        self.assertIs(compare("lt", one, other), sign == -1, told)
        self.assertIs(compare("le", one, other), sign in (-1, 0), told)
        self.assertIs(compare("lt", other, one), sign == 1, told)
        self.assertIs(compare("le", other, one), sign in (1, 0), told)
        self.assertIs(same(one, other), sign == 0, told)
        self.assertIs(same(other, one), sign == 0, told)

    def test_ints(self):
        for one, other, sign in [
            (1, 2, -1), (2, 2, 0), (-1, -2, 1), (LEAST_INT, GREATEST_INT, -1), (GREATEST_INT, GREATEST_INT, 0),
            (GREATEST_INT - 1, GREATEST_INT, -1), (LEAST_INT, LEAST_INT + 1, -1), (0, 0, 0),
        ]:
            self.check(one, other, sign)

    def test_floats(self):
        row = [MINUS_INF, Float(-1, 2 ** 53 - 1, 971), Float(-1, 1, 0), Float(-1, 1, -1074), ZERO, LEAST, Float(1, 1, -1022),
               Float(1, 1, -1), Float(1, 2 ** 53 - 1, -53), Float(1, 1, 0), Float(1, 2 ** 52 + 1, -52), Float(1, 1, 1023), GREATEST, INF]
        for at, one in enumerate(row):
            for place, other in enumerate(row):
                self.check(one, other, (at > place) - (at < place))

    def test_zeros(self):
        for one in (0, ZERO, MINUS_ZERO):
            for other in (0, ZERO, MINUS_ZERO):
                self.check(one, other, 0)
            self.check(one, LEAST, -1)
            self.check(one, Float(-1, 1, -1074), 1)
            self.check(one, 1, -1)
            self.check(one, -1, 1)

    def test_nan(self):
        for other in (NAN, 0, 5, ZERO, INF, MINUS_INF, LEAST, LEAST_INT):
            self.check(NAN, other, None)
            self.check(other, NAN, None)

    def test_infinities_and_ints(self):
        for number in (0, LEAST_INT, GREATEST_INT):
            self.check(number, INF, -1)
            self.check(number, MINUS_INF, 1)
            self.check(number, GREATEST, -1)

    def test_ints_near_floats(self):
        for one, other, sign in [
            (1, Float(1, 1, 0), 0), (1, Float(1, 2 ** 52 + 1, -52), -1), (1, Float(1, 2 ** 53 - 1, -53), 1),
            (2 ** 53, Float(1, 1, 53), 0), (2 ** 53 + 1, Float(1, 1, 53), 1), (2 ** 53 - 1, Float(1, 1, 53), -1),
            (2 ** 53 + 1, Float(1, 2 ** 52 + 1, 1), -1), (-(2 ** 53) - 1, Float(-1, 1, 53), -1),
            (GREATEST_INT, Float(1, 1, 63), -1), (GREATEST_INT, Float(1, 2 ** 53 - 1, 10), 1), (LEAST_INT, Float(-1, 1, 63), 0),
            (LEAST_INT + 1, Float(-1, 1, 63), 1), (LEAST_INT, Float(-1, 2 ** 52 + 1, 11), 1), (2 ** 62 + 1, Float(1, 1, 62), 1),
            (7, Float(1, 15, -1), -1), (8, Float(1, 15, -1), 1), (-7, Float(-1, 15, -1), 1),
        ]:
            self.check(one, other, sign)

    def test_many(self):
        chance = random.Random(8)
        for _ in range(3000):
            one = chance.choice([chance.randint(LEAST_INT, GREATEST_INT), chance.randint(-9, 9)])
            other = to_float(chance.choice([one, one + chance.randint(-3, 3), chance.randint(-9, 9)]))
            exact = Fraction(other.sign * other.top) * Fraction(2) ** other.power
            self.check(one, other, (one > exact) - (one < exact))
            nearby = Float(other.sign, other.top * 2 + 1, other.power - 1) if other.top < 2 ** 51 else other
            exact = Fraction(nearby.sign * nearby.top) * Fraction(2) ** nearby.power
            self.check(one, nearby, (one > exact) - (one < exact))

    def test_by_name(self):
        self.assertIs(compare(word="lt", one=1, other=2), True)
        self.assertIs(same(one=1, other=2), False)


class SameTest(unittest.TestCase):
    def test_all_kinds(self):
        one, other = Native("next", None), Native("next", None)
        row = [None, True, False, 0, 1, 2, Float(1, 1, -1), INF, MINUS_INF, "", "1", "nil", "true", "None", "nan", "inf", one, other]
        for at, first in enumerate(row):
            for place, second in enumerate(row):
                self.assertIs(same(first, second), at == place, (first, second))

    def test_equal_texts(self):
        self.assertIs(same("ab" * 3, "".join(["ababab"])), True)
        self.assertIs(same("a", "A"), False)

    def test_bools_are_no_numbers(self):
        for truth, number in [(True, 1), (False, 0), (True, Float(1, 1, 0)), (False, ZERO), (False, MINUS_ZERO)]:
            self.assertIs(same(truth, number), False)
            self.assertIs(same(number, truth), False)

    def test_nan_is_not_itself(self):
        self.assertIs(same(NAN, NAN), False)

    def test_numbers_by_value(self):
        self.assertIs(same(3, Float(1, 3, 0)), True)
        self.assertIs(same(Float(1, 1, 63), GREATEST_INT), False)
        self.assertIs(same(MINUS_ZERO, ZERO), True)
        self.assertIs(same(MINUS_ZERO, 0), True)


if __name__ == "__main__":
    unittest.main()
