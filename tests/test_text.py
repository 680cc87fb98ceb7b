"""Points 9.1 to 9.3: equations as texts, held against a grammar written as regular expressions."""

import random
import re
import time
import unittest

from wholeconic.errors import BadText, ConicError
from wholeconic.text import read_equation, write_equation

TOKEN = re.compile(r"[0-9]+|[xy+*^=-]")
FACTOR = r"(?:[0-9]{1,100}|[xy] \^ 2|[xy])"
TERM = re.compile(FACTOR + r"(?: \* " + FACTOR + ")*")
SIDE = r"(?:- )?{0}(?: [+-] {0})*".format(TERM.pattern)
WHOLE = re.compile(SIDE + " = " + SIDE)

# What may stand behind the beginning of an equation to make it whole.
ENDINGS = [ending.split() for ending in (
    "", "= 1", "1", "1 = 1", "2 = 1", "2", "x = 1", "* 1 = 1")]

# Points that tell an equation of second degree from any other one.
POINTS = [(x, y) for x in range(-1, 3) for y in range(-1, 3)] + [(7, -11)]


def tokens_of(text):
    return [(match.start(), match.group()) for match in TOKEN.finditer(text)]


def is_equation(tokens):
    """Return True if tokens, joined by spaces, are an equation of point 9.1."""
    joined = " ".join(tokens)
    if not WHOLE.fullmatch(joined):
        return False
    for term in re.split(r" [+=] | - |^- |= - ", joined):
        if len(re.findall("[xy]", term)) + term.count("^") > 2:
            return False
    return True


def begins_an_equation(tokens):
    return any(is_equation(tokens + ending) for ending in ENDINGS)


def plain_place(text):
    """Return the place of point 9.2, or None for the text of an equation."""
    for place, sign in enumerate(text):
        if sign not in "0123456789xy+-*^= ":
            return place
    tokens = tokens_of(text)
    words = [token for _, token in tokens]
    if is_equation(words):
        return None
    for many, (place, _) in enumerate(tokens):
        if not begins_an_equation(words[:many + 1]):
            return place
    return len(text)


def plain_value(text, x, y):
    """Return the left side less the right side at a point."""
    text = re.sub(r"\b0+([0-9])", r"\1", text.replace("^", "**"))
    left, right = text.split("=")
    return eval(left.strip(), {"x": x, "y": y}) - eval(right.strip(), {"x": x, "y": y})


def value_at(equation, x, y):
    a, b, c, d, e, f = equation
    return a * x * x + b * x * y + c * y * y + d * x + e * y + f


def drawn_term(source):
    factors = [str(source.randint(0, source.choice((1, 9, 10 ** 6)))) for _ in range(source.randint(0, 3))]
    factors += source.choice(([], ["x"], ["y"], ["x^2"], ["y^2"], ["x", "y"], ["y", "y"], ["x", "x"]))
    source.shuffle(factors)
    return "*".join(factors) or "7"


def drawn_text(source):
    sides = []
    for _ in range(2):
        side = source.choice(("", "-")) + drawn_term(source)
        for _ in range(source.randint(0, 4)):
            side += source.choice("+-") + drawn_term(source)
        sides.append(side)
    return "=".join(sides)


def spread(source, text):
    """Put spaces between the tokens of a text."""
    words = [word for _, word in tokens_of(text)]
    return "".join(" " * source.choice((0, 0, 1, 3)) + word for word in words) + " " * source.choice((0, 2))


class Checks(unittest.TestCase):

    def check_place(self, text, place):
        with self.assertRaises(BadText, msg=repr(text[:200])) as caught:
            read_equation(text)
        self.assertEqual(caught.exception.what, place, repr(text[:200]))
        self.assertIsInstance(caught.exception, ConicError)

    def check_text(self, text):
        """Check what a text gives; return True if it is an equation."""
        place = plain_place(text)
        if place is not None:
            self.check_place(text, place)
            return False
        equation = read_equation(text)
        self.assertIs(type(equation), tuple)
        self.assertEqual(len(equation), 6)
        for x, y in POINTS:
            self.assertEqual(value_at(equation, x, y), plain_value(text, x, y), text)
        return True


class TestRead(Checks):

    def test_written_out(self):
        for text, equation in (
            ("x^2 - 2*y^2 = 1", (1, 0, -2, 0, 0, -1)), ("0=0", (0, 0, 0, 0, 0, 0)), ("x=y", (0, 0, 0, 1, -1, 0)),
            ("-x*y*3=-4", (0, -3, 0, 0, 0, 4)), ("y*x+x*y=0", (0, 2, 0, 0, 0, 0)), ("x*x=y*y", (1, 0, -1, 0, 0, 0)),
            ("2*x*3 + 4*5 = 6*y*7", (0, 0, 0, 6, -42, 20)), ("007=7", (0, 0, 0, 0, 0, 0)),
            ("1 = - x ^ 2", (1, 0, 0, 0, 0, 1)), ("x - x + 3 = 3", (0, 0, 0, 0, 0, 0)),
            ("0*x^2 = 1", (0, 0, 0, 0, 0, -1)), (" - 5 = y ", (0, 0, 0, 0, -1, -5)),
            ("x^2*4*2 = 1*1", (8, 0, 0, 0, 0, -1)), ("2*3*y^2=0", (0, 0, 6, 0, 0, 0)),
            ("y=x^2-x*y-1", (-1, 1, 0, 0, 1, 1)), ("y^2*0=x*2*y*3", (0, -6, 0, 0, 0, 0)),
        ):
            self.assertEqual(read_equation(text), equation, text)

    def test_numbers_of_up_to_100_digits(self):
        nines = "9" * 100
        self.assertEqual(read_equation(nines + "*x=" + "0" * 100), (0, 0, 0, 10 ** 100 - 1, 0, 0))
        self.assertEqual(read_equation("0" * 99 + "5=y"), (0, 0, 0, 0, -1, 5))
        self.check_place("1" * 101 + "=0", 0)
        self.check_place("x + " + "0" * 101 + "=0", 4)
        self.check_place("x = 2*" + "1" * 500, 6)
        self.assertEqual(read_equation("*".join([nines] * 50) + "=0")[5], (10 ** 100 - 1) ** 50)

    def test_drawn(self):
        source = random.Random(601)
        for _ in range(400):
            text = drawn_text(source)
            self.assertTrue(self.check_text(text), text)
            self.assertTrue(self.check_text(spread(source, text)))
            self.assertEqual(read_equation(spread(source, text)), read_equation(text))

    def test_long_texts(self):
        start = time.monotonic()
        for text, equation in (
            ("x" + "+x" * 4998 + "=0", (0, 0, 0, 4999, 0, 0)), ("1" + "*1" * 4998 + "=0", (0, 0, 0, 0, 0, 1)),
            (" " * 9997 + "x=y", (0, 0, 0, 1, -1, 0)), ("x=y" + " " * 9997, (0, 0, 0, 1, -1, 0)),
            ("0" + "-x*y" * 2499 + "=0", (0, -2499, 0, 0, 0, 0)),
        ):
            self.assertLessEqual(len(text), 10000)
            self.assertEqual(read_equation(text), equation)
        for text, place in (
            ("x" + "+x" * 4999, 9999), (" " * 10000, 10000), ("x=" + "+x" * 4999, 2), ("9" * 10000, 0),
            ("1" + "*1" * 4990 + "*x*y*x=0", 9986), ("x" + "+x" * 4998 + "==", 9998), ("=" * 9999 + "a", 9999),
            ("x=1" + " " * 9996 + "1", 9999), ("x=1" + "-1" * 4998 + "?", 9999), ("0" + "-x*y" * 2499 + "^", 9997),
        ):
            self.check_place(text, place)
        nines = "*".join(["9" * 100] * 98)
        self.assertEqual(read_equation(nines + "=0")[5], (10 ** 100 - 1) ** 98)
        self.assertLess(time.monotonic() - start, 20)


class TestWrongTexts(Checks):

    def test_written_out(self):
        for text, place in (
            ("", 0), ("   ", 3), ("x", 1), ("x =", 3), ("x = ", 4), ("x = -", 5), ("= x", 0), ("x y = 0", 2),
            ("2x = 0", 1), ("x2 = 0", 1), ("x^3 = 0", 2), ("x^02 = 0", 2), ("x^22 = 0", 2), ("x^ = 0", 3),
            ("x^2^2 = 0", 3), ("2^2 = 0", 1), ("x*y*x = 0", 4), ("x*y^2 = 0", 3), ("x^2*y = 0", 4),
            ("x*3*x*2*y = 0", 8), ("x^2*x^2=0", 4), ("+x = 0", 0), ("--x = 0", 1), ("x - -1 = 0", 4),
            ("x + +1 = 0", 4), ("x * -1 = 0", 4), ("x = +1", 4), ("x = --1", 5), ("x = 1 = 2", 6), ("x == 1", 3),
            ("1 2 = 3", 2), ("12 3 = 0", 3), ("*x = 0", 0), ("x** = 0", 2), ("x*=0", 2), ("x + = 0", 4),
            ("(x) = 0", 0), ("x = z", 4), ("X = 0", 0), ("x\t= 0", 1), ("x = 0\n", 5), ("x/2 = 0", 1),
            ("x = 1.5", 5), ("1 2 = z", 6), ("x*y*x = !", 8), ("x\u00b2 = 0", 1), ("\u0663 = x", 0),
            ("x \u2212 1 = 0", 2), ("x = 1,", 5), ("x ^ 2 ^ 2 = 0", 6), ("y*y*y=0", 4), ("x^2=x^2*y", 8),
            ("x = 2 3 4", 6), ("-", 1), ("x^", 2), ("x*", 2), ("x+", 2), ("x^2=", 4), ("-=0", 1), ("x=^2", 2),
            ("x=y^y", 4), ("x 2=0", 2), ("\uff11=x", 0), ("x*x^2=0", 3), ("x*x*x^2=0", 4),
        ):
            self.check_place(text, place)
            self.assertEqual(plain_place(text), place, text)

    def test_all_short_texts(self):
        many = {True: 0, False: 0}
        texts = [""]
        for _ in range(4):
            texts = [text + sign for text in texts for sign in "2xy+-*^="]
            for text in texts:
                many[self.check_text(text)] += 1
        for text in texts:
            # Of the longer ones only those that may become an equation.
            if plain_place(text) in (None, 4) and "=" in text:
                for sign in "2xy+-*^=":
                    many[self.check_text(text + sign)] += 1
        self.assertGreater(min(many.values()), 200)

    def test_drawn_texts_with_one_sign_more_or_less(self):
        source = random.Random(611)
        many = {True: 0, False: 0}
        for _ in range(1500):
            text = spread(source, drawn_text(source))
            place = source.randrange(len(text) + 1)
            way = source.randrange(3)
            sign = source.choice("0129xy+-*^=  z;")
            if way == 0:
                text = text[:place] + sign + text[place:]
            elif way == 1:
                text = text[:place] + text[place + 1:]
            else:
                text = text[:place] + sign + text[place + 1:]
            many[self.check_text(text)] += 1
        self.assertGreater(min(many.values()), 200)

    def test_each_beginning_of_a_text_ends_too_soon(self):
        text = "x^2 - 3*x*y + 12 = -y^2*5 + 0"
        for end in range(len(text)):
            cut_text = text[:end]
            if plain_place(cut_text) is not None:
                self.check_place(cut_text, end)
        self.assertEqual(read_equation(text), (1, -3, 5, 0, 0, 12))


class TestWrite(Checks):

    def test_written_out(self):
        for equation, text in (
            ((1, 0, -2, 0, 0, -1), "x^2 - 2*y^2 - 1 = 0"), ((0, 0, 0, 0, 0, 0), "0 = 0"),
            ((-1, -1, -1, -1, -1, -1), "-x^2 - x*y - y^2 - x - y - 1 = 0"),
            ((1, 1, 1, 1, 1, 1), "x^2 + x*y + y^2 + x + y + 1 = 0"),
            ((2, -3, 4, -5, 6, -7), "2*x^2 - 3*x*y + 4*y^2 - 5*x + 6*y - 7 = 0"),
            ((-10, 0, 0, 0, 0, 0), "-10*x^2 = 0"), ((0, 0, 0, 0, 0, 5), "5 = 0"), ((0, 0, 0, 0, 0, -1), "-1 = 0"),
            ((0, 0, 0, -1, 2, 0), "-x + 2*y = 0"), ((0, 7, 0, 0, 0, 1), "7*x*y + 1 = 0"), ((0, 0, 0, 0, 1, 0), "y = 0"),
            ((0, 0, 3, 0, -1, 10), "3*y^2 - y + 10 = 0"),
        ):
            self.assertEqual(write_equation(equation), text)
            self.assertEqual(read_equation(text), equation)
            self.assertEqual(write_equation(list(equation)), text)

    def test_what_is_written_is_read_back(self):
        source = random.Random(621)
        for size in (1, 2, 30, 10 ** 100 - 1):
            for _ in range(150):
                equation = tuple(source.choice((0, source.randint(-size, size))) for _ in range(6))
                text = write_equation(equation)
                self.assertIs(type(text), str)
                self.assertEqual(read_equation(text), equation)
                self.assertEqual(write_equation(read_equation(text)), text)

    def test_what_is_read_is_written(self):
        source = random.Random(622)
        for _ in range(200):
            equation = read_equation(drawn_text(source))
            self.assertEqual(read_equation(write_equation(equation)), equation)

    def test_many_digits(self):
        self.assertEqual(
            write_equation((0, 0, 0, 10 ** 2999, 0, -10 ** 64)), "1" + "0" * 2999 + "*x - 1" + "0" * 64 + " = 0")
        self.assertEqual(write_equation((0, 0, 0, 0, 0, 10 ** 64 - 1)), "9" * 64 + " = 0")
        self.assertEqual(write_equation((0, 0, -10 ** 128 - 5, 0, 0, 0)), "-1" + "0" * 127 + "5*y^2 = 0")
        # Longer than Python itself would write at once.
        self.assertEqual(write_equation((0, 0, 0, 0, 0, 10 ** 9800 - 1)), "9" * 9800 + " = 0")


class TestTheGrammarOfTheTests(unittest.TestCase):

    def test_plain_place(self):
        self.assertIsNone(plain_place("x^2 - 3*x*y = -1"))
        self.assertEqual(plain_place("x*y*x=0"), 4)
        self.assertEqual(plain_place("x=1="), 3)
        self.assertEqual(plain_value("2*x^2 - 007 = y", 3, 1), 10)


if __name__ == "__main__":
    unittest.main()
