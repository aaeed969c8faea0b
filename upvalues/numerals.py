"""Numbers written as texts, and texts read as numbers."""

from upvalues.floats import quotient, rounded
from upvalues.ints import fits, is_int, wrapped
from upvalues.numbers import Float

BLANKS = " \t\n"
FIGURES = "0123456789"
FIGURES_OF_SIXTEEN = "0123456789abcdef"
# So many figures of a float are written.
WRITTEN = 14
# Places of the first figure between which a float is written without an exponent.
LOWEST_PLAIN = -4
HIGHEST_PLAIN = 13
# What lies halfway between two floats has at most 768 figures. Of those behind these it matters
# only whether one is not 0.
TOLD_FIGURES = 800
# 10 to this power is beyond the floats, and 10 to this power with a minus less than half the least one.
BEYOND_TENS = 330
# An exponent with more figures than the greatest one here moves the number of any text out of the floats.
GREATEST_EXPONENT = 10 ** 18


def text_of(number):
    """The text of a number."""
    if is_int(number):
        return str(number)
    sign = "-" if number.sign < 0 else ""
    if number.top == 0:
        return sign + "0.0"
    if not is_int(number.top):
        return sign + number.top
    figures, place = exact_figures(number.top, number.power)
    figures, place = nearest_figures(figures, place)
    if LOWEST_PLAIN <= place <= HIGHEST_PLAIN:
        return sign + plain_text(figures, place)
    return sign + exponent_text(figures, place)


def exact_figures(top, power):
    """All figures of top * 2 ** power, and the place of the first one."""
    # Each half is five tenths.
    for _ in range(-power):
        top = top * 5
    figures = str(top << max(power, 0))
    return figures, len(figures) - 1 + min(power, 0)


def nearest_figures(figures, place):
    """The nearest number with so many figures as are written, without zeros at its end."""
    kept = int(figures[:WRITTEN])
    rest = figures[WRITTEN:]
    half = "5".ljust(len(rest), "0")
    if rest != "" and (rest > half or (rest == half and kept & 1)):
        kept += 1
    nearest = str(kept)
    # Nines that are rounded up become a one at the place ahead of them.
    if len(nearest) > WRITTEN:
        place += 1
    return nearest.rstrip("0"), place


def plain_text(figures, place):
    """Figures with a point among them, or zeros put ahead or behind."""
    if place < 0:
        return "0." + figures.rjust(len(figures) - place - 1, "0")
    whole = figures[:place + 1].ljust(place + 1, "0")
    rest = figures[place + 1:]
    return whole + "." + (rest if rest != "" else "0")


def exponent_text(figures, place):
    """Figures with a point behind the first one, and an exponent."""
    rest = figures[1:]
    point = "." if rest != "" else ""
    sign = "-" if place < 0 else "+"
    return figures[0] + point + rest + "e" + sign + str(abs(place)).zfill(2)


def read_number(text):
    """The number that a text writes, or None."""
    text = text.strip(BLANKS).lower()
    sign = -1 if text.startswith("-") else 1
    if text.startswith("-") or text.startswith("+"):
        text = text[1:]
    if text.startswith("0x"):
        return read_of_sixteen(sign, text[2:])
    return read_of_ten(sign, text)


def are_figures(text, figures=FIGURES):
    """Whether a text is one figure or more, and nothing else."""
    return text != "" and text.strip(figures) == ""


def read_of_sixteen(sign, text):
    """The integer that figures of sixteen write, wrapped, or None."""
    if not are_figures(text, FIGURES_OF_SIXTEEN):
        return None
    # Sixteen figures hold 64 bits, so those ahead of them are lost by wrapping.
    return wrapped(sign * int(text[-16:], 16))


def read_of_ten(sign, text):
    """The number that a text without a sign ahead writes, or None."""
    figures, mark, exponent = text.partition("e")
    whole, point, rest = figures.partition(".")
    power = read_exponent(exponent) if mark != "" else 0
    if power is None or not are_figures(whole + rest):
        return None
    figures = (whole + rest).lstrip("0")
    if mark == "" and point == "" and len(figures) <= 19:
        number = sign * int("0" + figures)
        if fits(number):
            return number
    found = read_float(sign, figures, power - len(rest))
    return Float(*found)


def read_exponent(text):
    """The exponent that a text writes, or None; a great one only about."""
    sign = -1 if text.startswith("-") else 1
    if text.startswith("-") or text.startswith("+"):
        text = text[1:]
    if not are_figures(text):
        return None
    figures = text.lstrip("0")
    if len(figures) > 18:
        return sign * GREATEST_EXPONENT
    return sign * int("0" + figures)


def read_float(sign, figures, tens):
    """The parts of the float that is nearest to figures * 10 ** tens; the first figure is not 0."""
    beyond = len(figures) + tens
    if figures == "" or beyond < -BEYOND_TENS:
        return sign, 0, 0
    if beyond > BEYOND_TENS:
        return sign, "inf", 0
    if len(figures) > TOLD_FIGURES:
        tens = beyond - TOLD_FIGURES - 1
        figures = figures[:TOLD_FIGURES] + ("1" if figures[TOLD_FIGURES:].strip("0") != "" else "0")
    if tens >= 0:
        return rounded(sign, int(figures) * ten_to(tens), 0)
    return quotient((sign, int(figures), 0), (1, ten_to(-tens), 0))


def ten_to(many):
    """10 multiplied so many times."""
    found = 1
    for _ in range(many):
        found = found * 10
    return found
