"""Texts of fractions, rows, quotients, points and stretches, and of the answer that a claim holds."""


# The text by which a claim of the house, with its paper, answers what was asked.
def answer_text(claim, paper):
    word = claim[0]
    if word == "common":
        return row_text(claim[3])
    if word == "split":
        return split_text(claim[2], claim[3])
    if word == "unlike":
        return point_text(paper)
    if word in ("sum", "area"):
        return quotient_text(claim[2])
    if word == "roots":
        return stretches_text(claim[2])
    return "same" if word == "same" else "none"


def fraction_text(number):
    top, bottom = number
    return f"{top}" if bottom == 1 else f"{top} / {bottom}"


def row_text(row):
    told = ""
    for power in range(len(row) - 1, -1, -1):
        top, bottom = row[power]
        if top != 0:
            told = told + sign_text(top < 0, told == "") + term_text((abs(top), bottom), power)
    return told if told != "" else "0"


def sign_text(is_below_0, is_first):
    if is_first:
        return "-" if is_below_0 else ""
    return " - " if is_below_0 else " + "


# The number is above 0.
def term_text(number, power):
    factor = fraction_text(number)
    if power == 0:
        return factor
    unknown = "x" if power == 1 else f"x^{power}"
    return unknown if number == (1, 1) else f"{factor} * {unknown}"


def quotient_text(quotient):
    top, bottom = row_text(quotient[0]), row_text(quotient[1])
    return top if bottom == "1" else f"({top}) / ({bottom})"


def split_text(number, parts):
    told = fraction_text(number)
    for part, often in parts:
        base = row_text([(factor, 1) for factor in part])
        told = f"{told} * ({base})^{often}"
    return told


def point_text(point):
    told = []
    for name, number in point:
        at = fraction_text(number)
        told.append(f"{name} = {at}")
    return ", ".join(told)


def stretches_text(stretches):
    told = []
    for stretch in stretches:
        low, high = fraction_text(stretch[0]), fraction_text(stretch[1])
        told.append(f"({low}, {high}]")
    return " ".join(told) if told != [] else "none"
