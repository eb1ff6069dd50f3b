"""Point 23: the desk."""

import unittest

from paperwright.desk import Desk
from paperwright.reading import read
from paperwright.sides import parting
from reference import refused

ANSWERS = (
    ("common x^2 - 1; x^3 - 1", "x - 1"),
    ("common 2 * x + 2; 3 * x + 3", "x + 1"),
    ("common 0; 0", "0"),
    ("common 0; 5 - 5 * x", "x - 1"),
    ("common x; x + 1", "1"),
    ("common (2 * x - 1)^2; 4 * x^2 - 1", "x - 1 / 2"),
    ("common (x / 2 + 1 / 3)^2; (3 * x + 2) * x", "x + 2 / 3"),
    ("common x^3 + x; -x^12 - x^10", "x^3 + x"),
    ("split x", "1 * (x)^1"),
    ("split -x", "-1 * (x)^1"),
    ("split x^4 / 2 - 1 / 2", "1 / 2 * (x - 1)^1 * (x + 1)^1 * (x^2 + 1)^1"),
    ("split -3 * (x - 1)^2 * (2 * x + 1)", "-3 * (x - 1)^2 * (2 * x + 1)^1"),
    ("split (5 * x^3 - 2)^2 / -7", "-1 / 7 * (5 * x^3 - 2)^2"),
    ("split x^12", "1 * (x)^12"),
    ("split 1 / (1 / x)", "1 * (x)^1"),
    ("split x / (x - x + 2)", "1 / 2 * (x)^1"),
    ("same x / x; 1", "same"),
    ("same (a + b)^2; a^2 + 2 * a * b + b^2", "same"),
    ("same 1; 2", ""),
    ("same 1 / 2 + 1 / 2; 1", "same"),
    ("sum 0", "0"),
    ("sum 1 / (x^2 + x)", "(-1) / (x)"),
    ("sum 1 / x", "none"),
    ("sum x", "1 / 2 * x^2 - 1 / 2 * x"),
    ("sum 1 - 1 / (x * (x + 1))", "(x^2 + 1) / (x)"),
    ("area 0", "0"),
    ("area 1 / x^2", "(-1) / (x)"),
    ("area 1 / x", "none"),
    ("area 3 * x^2 - 1", "x^3 - x"),
    ("area -7 * x^3", "-7 / 4 * x^4"),
    ("area (1 - x^2) / (x^2 + 1)^2", "(x) / (x^2 + 1)"),
    ("area (2 * x^2) / (x^2 + x^2)", "x"),
    ("area 1 / (x^2 + 21 * x)", "none"),
    ("roots x^2 + 1", "none"),
)

REFUSED = (
    # Another word or number of parts, ahead of all else.
    ("NoLine", "", " ", "x", "common", "split", "same", "sum", "area", "roots", "paper ", " paper", "paper x", "Paper", "paper\n"),
    ("NoLine", "split\nx", "split\tx", "Split x", " split x", "splitx", "splits x", "divide x; x", "papers", "other (; 1 / 0"),
    ("NoLine", "common x", "common x;x", "common x ;x", "common x; x; x", "split x; x", "same x", "sum x; 1", "area x; x"),
    ("NoLine", "common ", "common 1 / 0", "split (; 1 / 0", "roots x; x", "same (", "same x; y; z", "; ", "paper; x", "bare x"),
    # No texts.
    ("NoText", "split ", "split  x", "split x ", "split x+1", "split x\n", "split x^13", "sum x;", "common ; ", "common x; "),
    ("NoText", "common x;; x", "split X", "roots 01", "split " + "x" * 1001, "split " + "(" * 31 + "x" + ")" * 31, "same x; \n"),
    # Another name than x, be it ahead of another fault.
    ("NoText", "split y", "sum y", "area 1 / y", "roots x + 0 * y", "common x; xx", "sum y / 0", "split y / (x - x)", "sum 0 * y"),
    # No quotients.
    ("NoValue", "split 1 / 0", "sum x / (x - x)", "area 1 / (0 * x)", "roots x / 0", "common 1 / 0; x", "common x; 1 / 0"),
    ("NoValue", "same 1 / 0; 1", "same 1; 1 / 0", "same y / (z - z); 1", "split 1 / 0 + 1 / x", "same x / 0^1; x"),
    # Rows with x below.
    ("NoText", "split 1 / x", "split x / x", "roots x^2 / x", "common x; 1 / (x + 1)", "common x / x; x"),
    # Each part whole, from the left.
    ("NoText", "common (; 1 / 0", "common y; 1 / 0", "common 1 / x; 1 / 0", "same (; 1 / 0", "common 1 / x; y"),
    ("NoValue", "common 1 / 0; (", "common 1 / 0; y", "common 1 / 0; 1 / x", "same 1 / 0; (", "same 1 / (x - x); x+1"),
    # Then as the papers refuse.
    ("NoRow", "split 0", "split 3", "split x - x", "roots 0", "roots -1 / 2", "roots x^2", "roots (x^2 + 1)^2 * x", "roots 5 / 2"),
    ("TooFar", "sum 1 / (x^2 + 21 * x)", "sum 1 / (x * (x - 21))", "sum 1 / ((x^2 + 1) * ((x + 30)^2 + 1))"),
)


class DeskTest(unittest.TestCase):
    def test_answers(self):
        for line, answer in ANSWERS:
            desk = Desk()
            self.assertEqual(desk.say(line), answer, line)
            self.assertEqual(desk.say("paper"), "holds")

    def test_points(self):
        for one, other in (("x^2", "x"), ("x / y", "y / x"), ("1 / (x - 1)", "z"), ("abc - 1 / 2", "1 / abc")):
            desk = Desk()
            answer = desk.say(f"same {one}; {other}")
            point = {}
            for part in answer.split(", "):
                name, number = part.split(" = ")
                point[name] = read(number).value({})
            self.assertEqual(list(point), sorted(set(read(one).names() + read(other).names())))
            self.assertNotEqual(read(one).value(point), read(other).value(point))
            self.assertEqual(sorted(point.items()), sorted(parting(read(one), read(other)).items()))
            self.assertEqual(desk.say("paper"), "holds")

    def test_stretches(self):
        for line, roots in (("x^3 - 2 * x", 3), ("2 * x - 1", 1), ("x^2 - 1 / 9", 2), ("-x^5 / 3 + x", 3)):
            answer = Desk().say(f"roots {line}")
            self.assertRegex(answer, r"^\((-?\d+)( / \d+)?, (-?\d+)( / \d+)?\]( \((-?\d+)( / \d+)?, (-?\d+)( / \d+)?\])*$")
            ends = [[read(end).value({}) for end in part.strip("(]").split(", ")] for part in answer.split("] (")]
            self.assertEqual(len(ends), roots)
            for low, high in ends:
                self.assertLess(low[0] * high[1], high[0] * low[1])

    def test_texts_are_read_again(self):
        for text in ("3 / 2 * x^4 - x^3 + 5 * x - 7 / 3", "-1 / 2 * x^2 + x", "-x^9 - 1", "x", "12", "1 / x^2 - 2 / (x - 1)^3 + x"):
            answer = Desk().say(f"area {text}")
            self.assertEqual(read(answer).shown(), answer)

    def test_refusals(self):
        for row in REFUSED:
            for line in row[1:]:
                with self.subTest(line=line):
                    refused(self, row[0], Desk().say, line)

    def test_the_paper_is_kept_till_the_next_answer(self):
        desk = Desk()
        self.assertEqual(desk.say("paper"), "none")
        for row in REFUSED:
            refused(self, row[0], desk.say, row[1])
            self.assertEqual(desk.say("paper"), "none")
        desk.say("sum 1 / x")
        for row in REFUSED:
            self.assertEqual(desk.say("paper"), "holds")
            refused(self, row[0], desk.say, row[1])
            self.assertEqual(desk.last[0][0], "no sum")
        desk.say("split x^2 - 1")
        self.assertEqual(desk.last[0][0], "split")
        self.assertEqual(desk.say("paper"), "holds")
        self.assertEqual(desk.say("paper"), "holds")

    def test_what_is_kept_is_asked_anew(self):
        desk = Desk()
        desk.say("split x^2 - 1")
        claim, paper = desk.last
        desk.last = (claim, paper[::-1])
        self.assertEqual(desk.say("paper"), "no")

    def test_two_desks_by_turns(self):
        one, other = Desk(), Desk()
        self.assertEqual(one.say("split x"), "1 * (x)^1")
        self.assertEqual(other.say("paper"), "none")
        self.assertEqual(one.say("paper"), "holds")
        refused(self, "NoLine", one.say, "paper paper")
        self.assertEqual(other.say("same x; x"), "same")
        self.assertEqual((one.last[0][0], other.last[0][0]), ("split", "same"))
        self.assertEqual(one.say("sum x"), "1 / 2 * x^2 - 1 / 2 * x")
        self.assertEqual((one.last[0][0], other.last[0][0]), ("sum", "same"))

    def test_the_same_line_is_answered_alike(self):
        desk = Desk()
        for line, answer in ANSWERS + ANSWERS[::-1]:
            self.assertEqual(desk.say(line), answer)


if __name__ == "__main__":
    unittest.main()
