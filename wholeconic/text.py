"""Equations as texts (points 9.1 to 9.3)."""

from wholeconic.errors import BadText

DIGITS = "0123456789"
SIGNS = "xy+-*^="
SPACE = " "
LONGEST_NUMBER = 100

# How often x and y stand in the terms of an equation, in its order, and how the terms are written.
LETTERS = ((2, 0), (1, 1), (0, 2), (1, 0), (0, 1), (0, 0))
WORDS = ("x^2", "x*y", "y^2", "x", "y", "")

# A part of 64 digits, as Python refuses to write very long numbers at once.
PART = 10 ** 64


class Reader:
    """The beginning of an equation, as far as it has been read.

    The state tells what may come next: "side" at the beginning of a side, "factor" where a factor must come,
    "letter" behind a letter, "power" behind "^", and "behind" behind another factor.
    """

    def __init__(self):
        """Begin with the left side."""
        self.numbers = [0, 0, 0, 0, 0, 0]
        self.state = "side"
        self.side = 1
        self.last = 0
        self._begin_term(1)

    def _begin_term(self, sign):
        """Begin a term behind its sign."""
        self.product = sign * self.side
        self.letters = [0, 0]

    def _end_term(self):
        """Add the term to the equation."""
        self.numbers[LETTERS.index((self.letters[0], self.letters[1]))] += self.product

    def take(self, token):
        """Read one more token and return True, or return False if no equation begins so."""
        if self.state == "side" and token == "-":
            self._begin_term(-1)
            self.state = "factor"
            return True
        if self.state == "side" or self.state == "factor":
            return self._take_factor(token)
        if self.state == "power":
            self.state = "behind"
            return token == "2"
        if self.state == "letter" and token == "^":
            return self._take_square()
        return self._take_sign(token)

    def _take_factor(self, token):
        """Read a number or a letter."""
        if token == "x" or token == "y":
            self.last = 0 if token == "x" else 1
            self.state = "letter"
            return self._add_letter()
        if token[0] not in DIGITS or len(token) > LONGEST_NUMBER:
            return False
        self.product = self.product * int(token)
        self.state = "behind"
        return True

    def _take_square(self):
        """Read the "^" behind a letter, by which the letter stands once more."""
        self.state = "power"
        return self._add_letter()

    def _add_letter(self):
        """Count the last letter once more and return True unless x and y stand too often."""
        self.letters[self.last] += 1
        return sum(self.letters) <= 2

    def _take_sign(self, token):
        """Read what stands behind a factor."""
        if token == "*":
            self.state = "factor"
            return True
        if token == "+" or token == "-":
            self._end_term()
            self._begin_term(1 if token == "+" else -1)
            self.state = "factor"
            return True
        if token != "=" or self.side == -1:
            return False
        self._end_term()
        self.side = -1
        self._begin_term(1)
        self.state = "side"
        return True

    def is_whole(self):
        """Return True if an equation may end here."""
        return self.side == -1 and self.state in ("letter", "behind")

    def equation(self):
        """Return the equation, which ends here."""
        self._end_term()
        return tuple(self.numbers)


def read_equation(text):
    """Return the equation that a text stands for."""
    for place, sign in enumerate(text):
        if sign not in DIGITS and sign not in SIGNS and sign != SPACE:
            raise BadText(place)
    reader = Reader()
    for place, token in _tokens(text):
        if not reader.take(token):
            raise BadText(place)
    if not reader.is_whole():
        raise BadText(len(text))
    return reader.equation()


def _tokens(text):
    """Return the list of the pairs (place, token) of a text: numbers and single other signs, without the spaces."""
    found = []
    place = 0
    while place < len(text):
        end = place + 1
        if text[place] in DIGITS:
            while end < len(text) and text[end] in DIGITS:
                end += 1
        if text[place] != SPACE:
            found.append((place, text[place:end]))
        place = end
    return found


def write_equation(equation):
    """Return the text of an equation."""
    terms = [(number, word) for number, word in zip(equation, WORDS) if number != 0]
    text = ""
    for number, word in terms:
        if text == "":
            text = "-" if number < 0 else ""
        else:
            text = text + (" - " if number < 0 else " + ")
        text = text + _term(abs(number), word)
    return (text if terms else "0") + " = 0"


def _term(number, word):
    """Return the text of a term with a number above 0."""
    if word == "":
        return _digits(number)
    return word if number == 1 else f"{_digits(number)}*{word}"


def _digits(number):
    """Return the digits of a number above 0."""
    parts = []
    while number >= PART:
        number, rest = divmod(number, PART)
        parts.append(str(rest).zfill(64))
    parts.append(str(number))
    parts.reverse()
    return "".join(parts)
