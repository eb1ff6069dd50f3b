"""The desk: lines are answered with texts, and the last answer's claim and paper are kept."""

from paperwright.checker import holds
from paperwright.errors import NoLine, NoText
from paperwright.fractions import over
from paperwright.papers import paper_area, paper_common, paper_roots, paper_sides, paper_split, paper_sum
from paperwright.pieces import quotient_of
from paperwright.reading import read
from paperwright.texts import answer_text

# For each word what its parts are.
PARTS = {
    "common": ("ROW", "ROW"),
    "split": ("ROW",),
    "same": ("E", "E"),
    "sum": ("QUOTIENT",),
    "area": ("QUOTIENT",),
    "roots": ("ROW",),
}


class Desk:
    # The last answer's claim and paper, or None ahead of the first answer.
    def __init__(self):
        self.last = None

    def say(self, line):
        if line == "paper":
            return self.last_paper()
        word, parts = line_parts(line)
        claim, paper = answered(word, parts)
        text = answer_text(claim, paper)
        self.last = (claim, paper)
        return text

    def last_paper(self):
        if self.last is None:
            return "none"
        claim, paper = self.last
        return "holds" if holds(claim, paper) else "no"


# A tuple of the line's word and what its parts come to.
def line_parts(line):
    word, blank, rest = line.partition(" ")
    texts = rest.split("; ")
    kinds = PARTS.get(word, ())
    if blank == "" or len(texts) != len(kinds):
        raise NoLine("no line of the desk")
    return (word, [read_part(kind, text) for kind, text in zip(kinds, texts)])


# An E stays a text: its claim is of texts.
def read_part(kind, text):
    expression = read(text)
    if kind != "E" and any([name != "x" for name in expression.names()]):
        raise NoText("another name than x")
    top, bottom = expression.quotient()
    if kind == "E":
        return text
    if kind == "QUOTIENT":
        return quotient_of(row_in_x(top), row_in_x(bottom))
    divisor = row_in_x(bottom)
    if len(divisor) > 1:
        raise NoText("a row with x below")
    return [over(number, divisor[0]) for number in row_in_x(top)]


# Of a polynomial in x alone.
def row_in_x(poly):
    numbers = {}
    for product, number in poly.items():
        numbers[product[0][1] if product != () else 0] = number
    return [numbers.get(power, (0, 1)) for power in range(max(list(numbers), default=-1) + 1)]


def answered(word, parts):
    if word == "common":
        return paper_common(parts[0], parts[1])
    if word == "split":
        return paper_split(parts[0])
    if word == "same":
        return paper_sides(parts[0], parts[1])
    if word == "sum":
        return paper_sum(parts[0])
    if word == "area":
        return paper_area(parts[0])
    return paper_roots(parts[0])
