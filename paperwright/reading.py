"""Reading of texts: an expression, or a refusal."""

from paperwright.errors import NoText
from paperwright.expressions import Expression

FIGURES = "0123456789"
LETTERS = "abcdefghijklmnopqrstuvwxyz"

MOST_SIGNS = 1000
MOST_BRACKETS = 30
MOST_MINUSES = 30
MOST_FIGURES = 30
MOST_LETTERS = 8
MOST_EXPONENT_FIGURES = 2
MOST_EXPONENT = 12


def read(text):
    if len(text) > MOST_SIGNS:
        raise NoText("a text is too long")
    reader = Reader(text)
    reader.take_sum()
    if reader.place < len(text):
        raise NoText("something stands behind the expression")
    return Expression(reader.steps)


# Each take reads one thing from the place on, moves the place behind it and adds its steps.
class Reader:
    def __init__(self, text):
        self.text = text
        self.place = 0
        self.brackets = 0
        self.steps = []

    def follows(self, signs):
        return self.text.startswith(signs, self.place)

    def take_sum(self):
        self.take_term()
        while self.follows(" + ") or self.follows(" - "):
            kind = self.take_sign()
            self.take_term()
            self.steps.append((kind, 0))

    def take_term(self):
        self.take_factor()
        while self.follows(" * ") or self.follows(" / "):
            kind = self.take_sign()
            self.take_factor()
            self.steps.append((kind, 0))

    def take_sign(self):
        sign = self.text[self.place + 1]
        self.place = self.place + 3
        return sign

    def take_factor(self):
        minuses = len(self.take_run("-"))
        if minuses > MOST_MINUSES:
            raise NoText("too many minuses ahead of an atom")
        self.take_atom()
        if self.follows("^"):
            self.place = self.place + 1
            self.take_exponent()
        self.steps.extend([("minus", 0)] * minuses)

    def take_exponent(self):
        exponent = whole_number(self.take_run(FIGURES), MOST_EXPONENT_FIGURES)
        if exponent > MOST_EXPONENT:
            raise NoText("an exponent is too great")
        self.steps.append(("power", exponent))

    def take_atom(self):
        if self.follows("("):
            self.take_brackets()
            return
        letters = self.take_run(LETTERS)
        if letters == "":
            self.steps.append(("number", whole_number(self.take_run(FIGURES), MOST_FIGURES)))
        elif len(letters) <= MOST_LETTERS:
            self.steps.append(("name", letters))
        else:
            raise NoText("a name is too long")

    def take_brackets(self):
        self.brackets = self.brackets + 1
        if self.brackets > MOST_BRACKETS:
            raise NoText("too many brackets at once")
        self.place = self.place + 1
        self.take_sum()
        if not self.follows(")"):
            raise NoText("a bracket isn't closed")
        self.place = self.place + 1
        self.brackets = self.brackets - 1

    def take_run(self, signs):
        start = self.place
        while self.place < len(self.text) and self.text[self.place] in signs:
            self.place = self.place + 1
        return self.text[start:self.place]


def whole_number(figures, most):
    if figures == "" or len(figures) > most:
        raise NoText("no whole number, or a too long one")
    if figures[0] == "0" and figures != "0":
        raise NoText("a 0 stands ahead of a figure")
    return int(figures)
