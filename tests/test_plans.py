"""[10] for_plan."""

import unittest

from builders import GREATEST_INT, INF, LEAST_INT, MINUS_INF, MINUS_ZERO, NAN, ZERO, real, written
from upvalues.numbers import Float, for_plan
from upvalues.objects import Native, Thrown

ZERO_STEP = "'for' step is zero"
LIMIT = "'for' limit must be a number"
STEP = "'for' step must be a number"
START = "'for' initial value must be a number"


def rounds(start, limit, step, most=20):
    """The values of the first rounds, written down."""
    plan = for_plan(start, limit, step)
    if plan is None:
        return []
    found = [written(plan.value)]
    while len(found) < most:
        more = plan.goes_on()
        assert more is True or more is False
        if not more:
            return found
        found.append(written(plan.value))
    return found


class PlanTest(unittest.TestCase):
    def check(self, args, values):
        self.assertEqual(rounds(*args), [written(value) for value in values], args)

    def thrown(self, text, *args):
        with self.assertRaises(Thrown) as caught:
            for_plan(*args)
        self.assertEqual(caught.exception.value, text, args)


class IntPlanTest(PlanTest):
    def test_ordinary(self):
        self.check((1, 4, 1), [1, 2, 3, 4])
        self.check((1, 4, 2), [1, 3])
        self.check((4, 1, -1), [4, 3, 2, 1])
        self.check((4, 1, -2), [4, 2])
        self.check((3, 3, 1), [3])
        self.check((3, 3, -1), [3])
        self.check((-2, 2, 3), [-2, 1])
        self.check((5, 10, 100), [5])

    def test_no_round(self):
        for args in [(4, 1, 1), (1, 4, -1), (1, 0, 1), (0, 1, -1), (GREATEST_INT, LEAST_INT, 1), (LEAST_INT, GREATEST_INT, -1)]:
            self.assertIsNone(for_plan(*args))

    def test_at_the_ends_nothing_wraps(self):
        self.check((GREATEST_INT - 2, GREATEST_INT, 1), [GREATEST_INT - 2, GREATEST_INT - 1, GREATEST_INT])
        self.check((GREATEST_INT - 2, GREATEST_INT, 2), [GREATEST_INT - 2, GREATEST_INT])
        self.check((GREATEST_INT - 2, GREATEST_INT, 3), [GREATEST_INT - 2])
        self.check((GREATEST_INT - 2, GREATEST_INT, GREATEST_INT), [GREATEST_INT - 2])
        self.check((LEAST_INT + 1, LEAST_INT, -1), [LEAST_INT + 1, LEAST_INT])
        self.check((LEAST_INT + 1, LEAST_INT, -2), [LEAST_INT + 1])
        self.check((LEAST_INT, GREATEST_INT, GREATEST_INT), [LEAST_INT, -1, GREATEST_INT - 1])
        self.check((GREATEST_INT, LEAST_INT, LEAST_INT), [GREATEST_INT, -1])
        self.check((LEAST_INT, LEAST_INT, LEAST_INT), [LEAST_INT])
        self.check((0, GREATEST_INT, 2 ** 62), [0, 2 ** 62])

    def test_float_limits(self):
        self.check((1, Float(1, 5, -1), 1), [1, 2])
        self.check((1, Float(1, 3, 0), 1), [1, 2, 3])
        self.check((3, Float(1, 3, -1), -1), [3, 2])
        self.check((-1, Float(-1, 5, -1), -1), [-1, -2])
        self.check((0, MINUS_ZERO, 1), [0])
        self.check((2 ** 53, Float(1, 1, 53), 1), [2 ** 53])
        self.check((2 ** 53 - 1, Float(1, 2 ** 52 + 1, 1), 1), [2 ** 53 - 1 + k for k in range(4)])
        self.check((GREATEST_INT - 1, Float(1, 1, 63), 1), [GREATEST_INT - 1, GREATEST_INT])
        self.check((LEAST_INT + 1, Float(-1, 1, 63), -1), [LEAST_INT + 1, LEAST_INT])
        self.check((LEAST_INT + 1, Float(-1, 1, 70), -1), [LEAST_INT + 1, LEAST_INT])
        self.assertIsNone(for_plan(1, Float(1, 1, -1), 1))
        self.assertIsNone(for_plan(0, Float(1, 1, -1074), -1))

    def test_infinite_limits(self):
        self.check((GREATEST_INT - 1, INF, 1), [GREATEST_INT - 1, GREATEST_INT])
        self.check((LEAST_INT + 1, MINUS_INF, -1), [LEAST_INT + 1, LEAST_INT])
        self.check((GREATEST_INT - 5, INF, 4), [GREATEST_INT - 5, GREATEST_INT - 1])
        self.assertIsNone(for_plan(1, MINUS_INF, 1))
        self.assertIsNone(for_plan(1, INF, -1))

    def test_nan_limit(self):
        self.assertIsNone(for_plan(1, NAN, 1))
        self.assertIsNone(for_plan(1, NAN, -1))

    def test_last_rounds_of_a_great_number(self):
        plan = for_plan(0, 10 ** 5, 1)
        for value in range(10 ** 5):
            self.assertEqual(plan.value, value)
            self.assertIs(plan.goes_on(), True)
        self.assertEqual(plan.value, 10 ** 5)
        self.assertIs(plan.goes_on(), False)
        step = 2 ** 64 // 10 ** 4
        plan = for_plan(LEAST_INT, GREATEST_INT, step)
        value = LEAST_INT
        while value + step <= GREATEST_INT:
            value += step
            self.assertIs(plan.goes_on(), True)
            self.assertEqual(plan.value, value)
        self.assertIs(plan.goes_on(), False)

    def test_errors_in_their_order(self):
        self.thrown(ZERO_STEP, 1, 5, 0)
        self.thrown(ZERO_STEP, 1, "x", 0)
        self.thrown(ZERO_STEP, 5, 1, 0)
        self.thrown(ZERO_STEP, 1, NAN, 0)
        for limit in (None, True, False, "5", "", Native("next", None)):
            self.thrown(LIMIT, 1, limit, 1)
            self.thrown(LIMIT, 1, limit, -1)

    def test_arguments_by_name(self):
        plan = for_plan(start=1, limit=2, step=1)
        self.assertEqual(plan.value, 1)
        self.assertIn("goes_on", vars(type(plan)))


class FloatPlanTest(PlanTest):
    def test_ordinary(self):
        self.check((real(1.0), 3, 1), [real(1.0), real(2.0), real(3.0)])
        self.check((1, 2, real(0.5)), [real(1.0), real(1.5), real(2.0)])
        self.check((real(1.0), real(2.0), 1), [real(1.0), real(2.0)])
        self.check((real(3.0), 1, real(-1.0)), [real(3.0), real(2.0), real(1.0)])
        self.check((real(0.0), real(0.5), real(0.1)), [real(0.0), real(0.1), real(0.2), real(0.1 + 0.1 + 0.1), real(0.4), real(0.5)])
        self.check((MINUS_ZERO, 0, 1), [MINUS_ZERO])

    def test_no_round(self):
        for args in [(real(4.0), 1, 1), (real(1.0), 4, -1), (1, real(0.5), real(0.5)), (1, 2, real(-0.5)), (INF, 5, 1), (MINUS_INF, 5, -1)]:
            self.assertIsNone(for_plan(*args))

    def test_sums_are_rounded(self):
        great = Float(1, 1, 53)
        self.check((great, Float(1, 2 ** 52 + 1, 1), 1), [great] * 20)
        self.check((real(1e308), INF, real(1e308)), [real(1e308)] + [INF] * 19)
        self.check((real(1e308), real(1.7e308), real(1e308)), [real(1e308)])
        self.check((Float(1, 1, -1074), Float(1, 3, -1074), Float(1, 1, -1074)), [Float(1, k, -1074) for k in (1, 2, 3)])

    def test_ints_go_to_float(self):
        self.check((GREATEST_INT, Float(1, 1, 63), real(1.0)), [Float(1, 1, 63)] * 20)
        self.check((2 ** 53 + 1, 2 ** 53 + 1, real(2.0)), [Float(1, 1, 53)])
        self.check((real(1.0), GREATEST_INT, Float(1, 1, 63)), [real(1.0), Float(1, 1, 63)])

    def test_infinities(self):
        self.check((INF, INF, 1), [INF] * 20)
        self.check((MINUS_INF, 0, 1), [MINUS_INF] * 20)
        self.check((MINUS_INF, INF, INF), [MINUS_INF])
        self.check((INF, INF, MINUS_INF), [INF])
        self.check((real(0.0), INF, INF), [real(0.0)] + [INF] * 19)
        self.check((real(0.0), 5, INF), [real(0.0)])
        self.check((real(0.0), MINUS_INF, MINUS_INF), [real(0.0)] + [MINUS_INF] * 19)

    def test_nan(self):
        for args in [(NAN, 5, 1), (NAN, 5, -1), (1, 5, NAN), (5, 1, NAN), (1, NAN, real(1.0)), (real(1.0), NAN, 1),
                     (NAN, NAN, NAN), (INF, INF, NAN), (MINUS_INF, NAN, INF)]:
            self.assertIsNone(for_plan(*args))

    def test_errors_in_their_order(self):
        bad = (None, True, False, "1", "x", Native("next", None))
        for thing in bad:
            for other in (real(1.0), 1):
                self.thrown(STEP, other, other, thing)
                self.thrown(START, thing, other, other)
            self.thrown(LIMIT, real(1.0), thing, 1)
            self.thrown(LIMIT, 1, thing, real(1.0))
            self.thrown(LIMIT, thing, thing, thing)
            self.thrown(LIMIT, real(1.0), thing, 0)
            self.thrown(LIMIT, 1, thing, ZERO)
            self.thrown(STEP, thing, 1, thing)
            self.thrown(START, thing, 1, 0)
            self.thrown(START, thing, 1, ZERO)
            self.thrown(START, thing, NAN, NAN)
        for step in (0, ZERO, MINUS_ZERO):
            self.thrown(ZERO_STEP, real(1.0), 5, step)
            self.thrown(ZERO_STEP, real(5.0), 1, step)
            self.thrown(ZERO_STEP, NAN, 1, step)
            self.thrown(ZERO_STEP, ZERO, NAN, step)
        self.thrown(ZERO_STEP, 1, 5, ZERO)
        self.thrown(ZERO_STEP, 1, 5, MINUS_ZERO)
        self.thrown(ZERO_STEP, 1, NAN, ZERO)


if __name__ == "__main__":
    unittest.main()
