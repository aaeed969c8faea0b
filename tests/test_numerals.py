"""[9] text_of and read_number."""

import math
import random
import struct
import unittest
from fractions import Fraction

from builders import GREATEST_INT, INF, LEAST_INT, MINUS_INF, MINUS_ZERO, NAN, ZERO, real, written
from upvalues.numbers import Float, to_float
from upvalues.numerals import read_number, text_of


def own_text(number):
    """The text of a float of Python's own, by Python's own 14 figures."""
    text = "%.14g" % number
    return text + ".0" if text.lstrip("-").isdigit() else text


def some_floats(many, seed):
    chance = random.Random(seed)
    for _ in range(many):
        number = struct.unpack("<d", struct.pack("<Q", chance.getrandbits(64)))[0]
        if math.isfinite(number):
            yield number
        yield chance.uniform(-1000, 1000)
        yield round(chance.uniform(-1000, 1000), chance.randint(0, 8))
        yield chance.randint(-(10 ** 16), 10 ** 16) / 2 ** chance.randint(0, 60)
        yield chance.randint(1, 10 ** chance.randint(1, 17)) * 10.0 ** chance.randint(-10, 10)


class TextTest(unittest.TestCase):
    def check(self, *rows):
        for number, text in rows:
            if isinstance(number, float):
                number = real(number)
            self.assertEqual(text_of(number), text, written(number))

    def test_ints(self):
        self.check((0, "0"), (7, "7"), (-7, "-7"), (10 ** 15, "1000000000000000"), (GREATEST_INT, "9223372036854775807"),
                   (LEAST_INT, "-9223372036854775808"))

    def test_words(self):
        self.check((INF, "inf"), (MINUS_INF, "-inf"), (NAN, "nan"), (ZERO, "0.0"), (MINUS_ZERO, "-0.0"))

    def test_plain(self):
        self.check((1.0, "1.0"), (-1.0, "-1.0"), (120.0, "120.0"), (0.05, "0.05"), (0.5, "0.5"), (-0.25, "-0.25"), (3.75, "3.75"),
                   (10.0, "10.0"), (100000.0, "100000.0"), (0.1, "0.1"), (12.5, "12.5"), (1234567.25, "1234567.25"))

    def test_fourteen_figures(self):
        self.check((1 / 3, "0.33333333333333"), (2 / 3, "0.66666666666667"), (math.pi, "3.1415926535898"), (1e7 / 3, "3333333.3333333"),
                   (1e13 / 3, "3333333333333.3"), (123456789012345.0, "1.2345678901234e+14"), (1e20 / 3, "3.3333333333333e+19"))

    def test_zeros_at_the_end_are_left_out(self):
        self.check((0.1 + 0.2, "0.3"), (1.1, "1.1"), (1e15 + 1000.0, "1.000000000001e+15"), (1.00000000000001, "1.0"), (0.9999999999999999, "1.0"))

    def test_ties_to_the_even_one(self):
        self.check((10000000000000.5, "10000000000000.0"), (10000000000001.5, "10000000000002.0"), (10000000000002.5, "10000000000002.0"),
                   (99999999999999.5, "1e+14"), (99999999999998.5, "99999999999998.0"), (100000000000005.0, "1e+14"),
                   (100000000000015.0, "1.0000000000002e+14"), (100000000000025.0, "1.0000000000002e+14"),
                   (-100000000000035.0, "-1.0000000000004e+14"), (1000000000000.25, "1000000000000.2"), (1000000000000.75, "1000000000000.8"))

    def test_just_beside_a_tie(self):
        self.check((Float(1, 5 * 10 ** 14 + 25, -1), "2.5000000000001e+14"), (10000000000000.502, "10000000000001.0"),
                   (10000000000000.498, "10000000000000.0"), (1000000000000.2501, "1000000000000.3"))

    def test_where_an_exponent_begins(self):
        self.check((0.0001, "0.0001"), (0.00012345, "0.00012345"), (0.00001, "1e-05"), (0.000099999, "9.9999e-05"),
                   (0.000099999999999999, "9.9999999999999e-05"), (0.00009999999999999999, "0.0001"), (12345678901234.0, "12345678901234.0"),
                   (10000000000000.0, "10000000000000.0"), (100000000000000.0, "1e+14"), (99999999999999.0, "99999999999999.0"),
                   (99999999999999.9, "1e+14"), (9999999999999.96, "10000000000000.0"))

    def test_exponents(self):
        self.check((1e15, "1e+15"), (2.5e-7, "2.5e-07"), (1e100, "1e+100"), (-1.5e-10, "-1.5e-10"), (1e-100, "1e-100"), (1e99, "1e+99"),
                   (123e20, "1.23e+22"), (2.0 ** 63, "9.2233720368548e+18"), (2.0 ** 64, "1.844674407371e+19"))

    def test_the_least_and_the_greatest(self):
        self.check((5e-324, "4.9406564584125e-324"), (Float(-1, 1, -1074), "-4.9406564584125e-324"), (2.2250738585072014e-308, "2.2250738585072e-308"),
                   (1.7976931348623157e308, "1.7976931348623e+308"), (-1.7976931348623157e308, "-1.7976931348623e+308"))

    def test_many_against_python(self):
        for number in some_floats(2000, 1):
            self.assertEqual(text_of(real(number)), own_text(number), repr(number))

    def test_all_powers_of_two(self):
        for power in range(-1074, 1024):
            self.assertEqual(text_of(Float(1, 1, power)), own_text(math.ldexp(1.0, power)))

    def test_by_name(self):
        self.assertEqual(text_of(number=real(0.5)), "0.5")


class ReadTest(unittest.TestCase):
    def check(self, *rows):
        for text, number in rows:
            if isinstance(number, float):
                number = real(number)
            self.assertEqual(written(read_number(text)), written(number), text)

    def test_ints(self):
        self.check(("0", 0), ("7", 7), ("-7", -7), ("+7", 7), ("007", 7), ("-0", 0), ("+0", 0), ("12345678901234567890"[:19], 1234567890123456789),
                   ("0" * 5000 + "12", 12), ("-" + "0" * 30 + "3", -3))

    def test_the_ends_of_ints(self):
        self.check(("9223372036854775807", GREATEST_INT), ("-9223372036854775808", LEAST_INT), ("+9223372036854775807", GREATEST_INT),
                   ("0009223372036854775807", GREATEST_INT), ("9223372036854775808", Float(1, 1, 63)), ("-9223372036854775809", Float(-1, 1, 63)),
                   ("-9223372036854775807", -GREATEST_INT))

    def test_ints_that_do_not_fit(self):
        self.check(("18446744073709551616", Float(1, 1, 64)), ("10000000000000000000", to_float(10 ** 19)), ("99999999999999999999", 1e20),
                   ("9" * 308, 1e308), ("9" * 309, INF), ("-" + "9" * 400, MINUS_INF), ("1" + "0" * 22, 1e22), ("1" + "0" * 5000, INF),
                   ("9223372036854777856", 9223372036854777856.0), ("9223372036854776833", 9223372036854777856.0),
                   ("9223372036854776832", 9223372036854775808.0))

    def test_blanks(self):
        self.check((" 5", 5), ("5 ", 5), ("\t\n 5 \n\t", 5), ("  -1.5\n", -1.5), (" 0x10 ", 16))
        for text in ("\r5", "5\r", "5\f", "\v5", "5\x01", "\u00a05", "- 5", "-\t5", "1 2", "1\n2", "0x 1", "0 x1", "1 e5", "1e 5", "1e- 5", "1. 5"):
            self.assertIsNone(read_number(text), text)

    def test_points(self):
        self.check(("1.5", 1.5), (".5", 0.5), ("5.", 5.0), ("-.5", -0.5), ("+5.", 5.0), ("00.500", 0.5), ("0.1", 0.1), ("3.", 3.0), ("1.0", 1.0))
        for text in (".", "-.", "+.", "1.2.3", "..1", "1..", ".-5", "1.-5"):
            self.assertIsNone(read_number(text), text)

    def test_exponents(self):
        self.check(("1e5", 100000.0), ("1E5", 100000.0), ("1e+5", 100000.0), ("1e-5", 0.00001), ("1.5e3", 1500.0), (".5e1", 5.0), ("5.e1", 50.0),
                   ("1e0", 1.0), ("1e00005", 100000.0), ("-2e2", -200.0), ("1e-00", 1.0), ("0e5", 0.0), ("-0e-5", MINUS_ZERO))
        for text in ("e5", "1e", "1e+", "1e-", ".e5", "1ee5", "1e5e5", "1e5.", "1e.5", "1e+-5", "-e5", "1e5x", "1f5"):
            self.assertIsNone(read_number(text), text)

    def test_exponents_of_any_size(self):
        big = "9" * 40
        self.check(("1e308", 1e308), ("1e309", INF), ("-1e309", MINUS_INF), ("1e-323", 1e-323), ("1e-324", ZERO), ("-1e-400", MINUS_ZERO),
                   ("1e" + big, INF), ("-1e" + big, MINUS_INF), ("1e-" + big, ZERO), ("-1e-" + big, MINUS_ZERO), ("0e" + big, ZERO),
                   ("-0.0e" + big, MINUS_ZERO), ("0e-" + big, ZERO), ("1e" + "9" * 5000, INF), ("1e-" + "9" * 5000, ZERO),
                   ("1e" + "0" * 5000 + "2", 100.0), ("1e999999999", INF), ("1e-999999999", ZERO), ("00000e999", ZERO))

    def test_figures_and_exponents_outweigh_each_other(self):
        self.check(("0." + "0" * 999 + "1e1000", 1.0), ("1" + "0" * 1000 + "e-1000", 1.0), ("0." + "0" * 5000 + "125e5003", 125.0),
                   ("25" + "0" * 5000 + "e-5001", 2.5), ("0." + "0" * 400 + "1", ZERO), ("123" + "0" * 400 + ".0e-400", 123.0))

    def test_zeros_of_both_signs(self):
        self.check(("0.0", ZERO), ("-0.0", MINUS_ZERO), ("-0.", MINUS_ZERO), ("-.0", MINUS_ZERO), ("+0.0", ZERO), ("-0e0", MINUS_ZERO), ("-0", 0),
                   ("-0x0", 0))

    def test_figures_of_sixteen(self):
        self.check(("0x10", 16), ("0XfF", 255), ("0xAbCdEf", 0xABCDEF), ("-0x1", -1), ("+0xa", 10), ("0x1e5", 0x1E5), ("0xe", 14), ("0x00f", 15),
                   ("0x7fffffffffffffff", GREATEST_INT), ("0xffffffffffffffff", -1), ("0x8000000000000000", LEAST_INT), ("-0x8000000000000000", LEAST_INT),
                   ("0x10000000000000000", 0), ("0x123456789abcdef01", 0x23456789ABCDEF01), ("-0xffffffffffffffff", 1), ("0x" + "f" * 5000, -1),
                   ("0x" + "1" * 100, 0x1111111111111111), ("0x" + "0" * 5000 + "7", 7))
        for text in ("0x", "-0x", "0x.8", "0x1.8", "0x1.", "0x1p4", "0xg", "x10", "00x1", "0x0x1", "0x-1", "0x+1", "1x1", "0x1_0", "0xe+1", "0x1h"):
            self.assertIsNone(read_number(text), text)

    def test_nothing_else(self):
        for text in ("", " ", "\n\t", "-", "+", "--1", "+-1", "-+1", "++1", "1-", "1+", "inf", "-inf", "nan", "Infinity", "NaN", "infinity", "a", "1a",
                     "a1", "1,5", "1_000", "(1)", "1/2", "0b1", "0o7", "1j", "1L", "$1", "one", "1\x00", "\u0661", "\uff11", "1\u0661", "\u00b2",
                     "true", "nil", "1e\u0661", "0x\uff11"):
            self.assertIsNone(read_number(text), text)

    def test_right_between_two_floats(self):
        # 2 ** 53 + 1 lies between 2 ** 53 and 2 ** 53 + 2; of two as near the even one is taken.
        self.check(("9007199254740993.0", 9007199254740992.0), ("9007199254740995.0", 9007199254740996.0),
                   ("9007199254740993." + "0" * 2000, 9007199254740992.0), ("9007199254740993." + "0" * 2000 + "1", 9007199254740994.0),
                   ("9007199254740992." + "9" * 2000, 9007199254740992.0), ("9007199254740993" + "0" * 900 + "e-900", 9007199254740992.0),
                   ("9007199254740993" + "0" * 900 + "1e-901", 9007199254740994.0))

    def halfway(self, one, other, behind="", less=0):
        """The figures of the number right between two floats, or of one less at the last place, with others behind them."""
        middle = (Fraction(one) + Fraction(other)) / 2
        places = middle.denominator.bit_length() - 1
        figures = str(middle.numerator * 5 ** places - less).rjust(places + 1, "0")
        return figures[:len(figures) - places] + "." + figures[len(figures) - places:] + behind

    def test_right_between_any_two(self):
        for number in (5e-324, 1e-323, 1.5e-323, 2.2250738585072014e-308, 2.225073858507201e-308, 1e-300, 0.1, 1.0, 3.3, 1e22, 1.2e100, 1e300):
            other = math.nextafter(number, math.inf)
            even = number if (Fraction(number) / Fraction(math.ulp(number))).numerator % 2 == 0 else other
            self.check((self.halfway(number, other), even), (self.halfway(number, other, "0" * 900), even), ("-" + self.halfway(number, other), -even),
                       (self.halfway(number, other, "0" * 900 + "1"), other), (self.halfway(number, other, "9" * 900, 1), number))

    def test_the_edge_to_zero_and_to_infinity(self):
        half = self.halfway(0.0, 5e-324)
        self.check((half, ZERO), (half + "1", 5e-324), ("-" + half, MINUS_ZERO), ("-" + half + "0" * 99 + "1", -5e-324))
        edge = 2 ** 1024 - 2 ** 970
        self.check((str(edge) + ".0", INF), (str(edge), INF), (str(edge - 1), 1.7976931348623157e308), (str(edge - 1) + "." + "9" * 900, 1.7976931348623157e308),
                   ("1.7976931348623157e308", 1.7976931348623157e308), ("1.7976931348623159e308", INF))

    def test_very_many_figures(self):
        self.check(("1" * 4000 + "e-3999", 1.1111111111111112), ("0." + "3" * 100000, 1 / 3), ("3" * 100000 + "e-100000", 1 / 3), ("9" * 100000, INF),
                   ("0" * 100000 + "5", 5), ("0" * 100000 + ".5", 0.5))

    def test_many_against_python(self):
        for number in some_floats(1200, 2):
            for text in (repr(number), "%.25e" % number, own_text(number)):
                if "." in text or "e" in text:
                    self.check((text, float(text)))

    def test_what_is_written_is_read_back(self):
        for number in (0, 1, -1, 10 ** 18, GREATEST_INT, LEAST_INT, ZERO, MINUS_ZERO, real(0.5), real(-1e100), real(5e-324), real(1e14), real(0.0001)):
            if number != real(5e-324):
                self.check((text_of(number), number))
        for number in some_floats(300, 3):
            text = text_of(real(number))
            self.check((text, float(text)))
            self.assertEqual(text_of(read_number(text)), text)
        self.check((text_of(real(5e-324)), 5e-324))

    def test_words_are_not_read_back(self):
        for number in (INF, MINUS_INF, NAN):
            self.assertIsNone(read_number(text_of(number)))

    def test_by_name(self):
        self.assertEqual(read_number(text="12"), 12)


if __name__ == "__main__":
    unittest.main()
