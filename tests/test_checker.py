"""Points 22 and 3: what the checker takes, and what it doesn't."""

import ast
import copy
import time
import unittest
from fractions import Fraction

from paperwright.checker import holds
from paperwright.claims import WORDS, is_claim
from paperwright.papers import (
    paper_area, paper_bare, paper_common, paper_parted, paper_plus, paper_roots, paper_sides, paper_sign, paper_split,
    paper_sum, paper_times,
)
from paperwright.pieces import quotient_of
from paperwright.rows import row_times
from paperwright.splitting import wholeness
from bends import bends, bent_same, is_true, some
from language import PACKAGE
from paperwork import bound, paper_holds
from reference import row_of
from test_pieces import NOUGHT, ONE, power

X = row_of(0, 1)
HALF = Fraction(1, 2)
ROOT_2 = ([-2, 0, 1], 1)
ROOT_3 = ([-3, 0, 1], 1)


def unsplit(whole):
    return (("unsplit", whole), wholeness(whole))


# At least one claim of each word, each with the house's paper.
TOLD = (
    paper_common(row_of(-1, 0, 1), row_of(HALF, HALF)),
    paper_common(row_of(2, 3), row_of(0, 0, 1)),
    paper_common([], []),
    paper_common(row_of(0, 2), []),
    paper_bare(row_of(1, 0, 3)),
    paper_bare(row_of(7)),
    unsplit([1, 0, 0, 0, 1]),
    unsplit([-3, 2]),
    unsplit([1, 0, -10, 0, 1]),
    paper_split(row_of(0, -HALF, 0, HALF)),
    paper_split(row_of(4, 12, 13, 6, 1)),
    paper_roots(row_of(0, -2, 0, 1)),
    paper_roots(row_of(1, 0, 1)),
    paper_sides("(x^2 - 1) / (x - 1)", "x + 1"),
    paper_sides("x * y", "x + y / (x - z)"),
    paper_sides("1", "2"),
    paper_sign(row_of(-3, 2), ROOT_2),
    paper_sign(row_of(0, -2, 0, 1), ROOT_2),
    paper_sign([], ROOT_2),
    paper_sign(row_of(5), ([-3, 2], 0)),
    paper_plus(ROOT_2, ROOT_3),
    paper_plus(([1, 2], 0), ([-3, 2], 0)),
    paper_times(ROOT_2, ROOT_2),
    paper_times(([-2, 0, 1], 0), ([-2, 0, 0, 1], 0)),
    paper_parted(quotient_of(row_of(1, 0, 0, 0, 3), row_of(0, 0, -2, 0, 1))),
    paper_parted(NOUGHT),
    paper_sum(quotient_of(ONE, row_of(0, 1, 1))),
    paper_sum((row_of(0, 0, 1), ONE)),
    paper_area(quotient_of(row_of(1, 0, -1), row_of(1, 0, 2, 0, 1))),
    paper_area(NOUGHT),
    paper_sum(quotient_of(row_of(1, 1), row_of(0, 0, 1, 0, 1))),
    paper_sum(quotient_of(row_of(1, 1), row_of(0, 3, 1))),
    paper_area(quotient_of(row_of(1, 1), row_of(0, 0, 1, 0, 1))),
)


class TakenTest(unittest.TestCase):
    def test_each_word_is_told(self):
        self.assertEqual(sorted({claim[0] for claim, paper in TOLD}), sorted(WORDS))

    def test_what_the_house_tells_is_taken(self):
        for claim, paper in TOLD:
            self.assertIs(holds(claim, paper), True, claim)
            self.assertIs(holds(copy.deepcopy(claim), copy.deepcopy(paper)), True)
            self.assertTrue(is_true(claim))

    def test_nothing_handed_in_is_changed(self):
        for claim, paper in TOLD:
            before = repr((claim, paper))
            holds(claim, paper)
            self.assertEqual(repr((claim, paper)), before)

    def test_with_papers_of_other_claims(self):
        for claim, paper in TOLD:
            for other, further in TOLD:
                if holds(claim, further):
                    self.assertTrue(is_true(claim))


class BentTest(unittest.TestCase):
    def test_bent_claims_are_taken_only_where_they_are_true(self):
        for claim, paper in TOLD:
            for bent in some(bends(claim), 700, 1):
                answer = holds(bent, paper)
                self.assertIs(type(answer), bool)
                if answer and not bent_same(claim, bent):
                    self.assertTrue(is_claim(bent) and is_true(bent), (claim, bent))

    def test_bent_papers_are_answered(self):
        for claim, paper in TOLD:
            for bent in some(bends(paper), 900, 2):
                self.assertIs(type(holds(claim, bent)), bool, (claim, bent))

    def test_bent_kinds_are_not_taken(self):
        """What is a truth, None, a text or a dict in a number's place, or a list for a tuple, is none."""
        for claim, paper in TOLD:
            for bent in misfits(claim):
                self.assertIs(holds(bent, paper), False, bent)
            for bent in misfits(paper) if paper is not None else [0, False, "", [], (), {}, "None"]:
                self.assertIs(holds(claim, bent), False, (claim, bent))

    def test_bent_wholenesses_as_the_words_tell(self):
        for whole in ([1, 0, 0, 0, 1], [-3, 2], [1, 0, -10, 0, 1], [2, 0, 0, 5], [1, 1, 1]):
            paper = wholeness(whole)
            self.assertIs(holds(("unsplit", whole), paper), True)
            for bent in some(bends(paper), 400, 3):
                self.assertIs(holds(("unsplit", whole), bent), paper_holds(whole, bent), (whole, bent))


def misfits(thing):
    """The thing with one part of it, at any depth, of another kind."""
    if isinstance(thing, (list, tuple)):
        yield from (list(thing), {"x": thing}, None) if isinstance(thing, tuple) else (tuple(thing), {}, None)
        for place, part in enumerate(thing):
            for misfit in misfits(part):
                yield type(thing)(list(thing[:place]) + [misfit] + list(thing[place + 1:]))
    elif isinstance(thing, int):
        yield from (str(thing), None, {}, [thing], (thing,))
        if thing in (0, 1):
            yield thing == 1
    else:
        yield from (1, True, {}, [thing], (thing,))


class FormTest(unittest.TestCase):
    def test_no_claims(self):
        for claim, paper in TOLD:
            for other in (
                list(claim), claim[:-1], claim + (None,), claim + claim[1:2], claim[1:], claim[0], (claim,), [claim],
                ("other",) + claim[1:], ("",) + claim[1:], (None,) + claim[1:], (True,) + claim[1:], ([],) + claim[1:],
                ({},) + claim[1:], ((claim[0],),) + claim[1:], (claim[0].upper(),) + claim[1:], {claim[0]: claim[1:]},
            ):
                self.assertIs(holds(other, paper), False)
        for thing in (None, True, False, 0, 1, "", "common", [], (), {}, ((),), ([],), ({},), (None,), ("same",)):
            self.assertIs(holds(thing, None), False)
            self.assertIs(holds(thing, thing), False)

    def test_things_written_otherwise(self):
        self.assertIs(holds(("bare", row_of(1)), (row_of(1), [])), True)
        for paper in (
            ([(2, 2)], []), ([(1, 1), (0, 1)], []), ([(True, 1)], []), ([(1, True)], []), ([[1, 1]], []), ([1], []),
            (((1, 1),), []), [row_of(1), []], (row_of(1), ()), (row_of(1), [(0, 1)]), (row_of(1), None), ([(-1, -1)], []),
            (row_of(1),), (row_of(1), [], []), {0: row_of(1), 1: []}, None, "", True,
        ):
            self.assertIs(holds(("bare", row_of(1)), paper), False)
        for f in ([(2, 2)], [(1, 1), (0, 1)], [(True, 1)], ((1, 1),), [(1, True)], [1], [[1, 1]]):
            self.assertIs(holds(("bare", f), (row_of(1), [])), False)

    def test_papers_that_are_nothing(self):
        for claim, paper in TOLD:
            if paper is None:
                for other in (False, 0, "", [], (), {}, True, "None"):
                    self.assertIs(holds(claim, other), False)
            else:
                self.assertIs(holds(claim, None), False)


class BoundsTest(unittest.TestCase):
    def test_rows_of_200_numbers(self):
        for length, taken in ((200, True), (201, False)):
            high = row_of(*[0] * (length - 1), 1)
            degree = length - 1
            lifted = [0] * degree + [1]
            self.assertIs(holds(("common", high, ONE, ONE), ([], ONE, high, ONE)), taken)
            self.assertIs(holds(("common", ONE, ONE, ONE), (high, row_of(1, *[0] * (length - 2), -1), ONE, ONE)), taken)
            ends = row_of(-1, *[0] * (degree - 1), 1)
            bare = (row_of(-1), row_of(0, Fraction(1, degree)))
            self.assertIs(holds(("bare", ends), bare), taken)
            stretch = [((0, 1), (2, 1))] if degree % 2 else [((-2, 1), (0, 1)), ((0, 1), (2, 1))]
            self.assertIs(holds(("roots", ends, stretch), bare), taken)
            nought = wholeness([0, 1])
            self.assertIs(holds(("split", high, (1, 1), [([0, 1], degree)]), [nought]), taken)
            self.assertIs(holds(("parted", (ONE, high), [], [([0, 1], degree, ONE)]), [nought]), taken)
            self.assertIs(holds(("parted", (high, ONE), high, []), []), taken)
            self.assertIs(holds(("area", (row_of(*[0] * (degree - 1), degree), ONE), (high, ONE)), None), taken)
            self.assertIs(holds(("no sum", (ONE, high)), (NOUGHT, (ONE, high), [([0, 1], degree, nought)])), taken)
            self.assertIs(holds(("sign", high, ([-1, 1], 0), 1), (wholeness([-1, 1]), (1, 2), (1, 1))), taken)
            self.assertIs(holds(("unsplit", lifted), (2, 1, [lifted])), False)

    def test_a_long_whole_row(self):
        # By 2 this row doesn't split.
        whole = [1] + [0] * 33 + [1] + [0] * 164 + [1]
        exponent = (2 * bound(whole)).__floor__().bit_length()
        self.assertIs(holds(("unsplit", whole), (2, exponent, [whole])), True)
        self.assertIs(holds(("unsplit", whole), (2, exponent - 1, [whole])), False)
        self.assertIs(holds(("unsplit", whole), (2, exponent + 1, [whole])), False)
        self.assertIs(holds(("unsplit", [0] + whole), (2, exponent, [[0] + whole])), False)

    def test_texts_of_1000_signs(self):
        long = "1" + " + 1" * 249
        self.assertEqual(len("---" + long), 1000)
        self.assertIs(holds(("same", "---" + long, "248"), None), True)
        self.assertIs(holds(("same", "----" + long, "250"), None), False)
        self.assertIs(holds(("unlike", "---" + long, "0"), []), True)
        self.assertIs(holds(("unlike", "----" + long, "0"), []), False)
        self.assertIs(holds(("unlike", "0", "----" + long), []), False)

    def test_primes_up_to_9973(self):
        for prime, taken in ((9973, True), (10007, False), (3, True), (9967, True), (9971, False), (1, False)):
            self.assertIs(holds(("unsplit", [-3, 2]), (prime, 1 if prime > 6 else 3, [[inverse(prime), 1]])), taken)
        self.assertIs(holds(("unsplit", [1, 0, 1]), (10007, 1, [[1, 0, 1]])), False)
        self.assertIs(holds(("unsplit", [1, 0, 1]), (9967, 1, [[1, 0, 1]])), True)

    def test_how_often_is_compared_ahead_of_powers(self):
        begun = time.monotonic()
        nought = wholeness([0, 1])
        for often in (4, 5, 10 ** 6, 10 ** 30, 10 ** 3000):
            self.assertIs(holds(("split", row_of(0, 0, 0, 1), (1, 1), [([0, 1], often)]), [nought]), False)
            many = [([0, 1], 1), ([1, 1], often)]
            self.assertIs(holds(("split", row_of(0, 0, 0, 1), (1, 1), many), [nought, wholeness([1, 1])]), False)
            third = (ONE, row_of(0, 0, 0, 1))
            self.assertIs(holds(("parted", third, [], [([0, 1], often, ONE)]), [nought]), False)
            two = [([0, 1], 1, ONE), ([0, 1], often, ONE)]
            self.assertIs(holds(("parted", third, [], two), [nought]), False)
            self.assertIs(holds(("no sum", third), (NOUGHT, third, [([0, 1], often, nought)])), False)
            self.assertIs(holds(("unsplit", [0, 1]), (nought[0], often, nought[2])), False)
            self.assertIs(holds(("sign", X, ([-2, 0, 1], often), 1), (wholeness([-2, 0, 1]), (1, 1), (2, 1))), False)
        self.assertLess(time.monotonic() - begun, 20)


def inverse(prime):
    """The number c by which 2 (x + c) is 2 x - 3, by the prime or what it comes to here."""
    modulus = prime if prime > 6 else prime ** 3
    return -3 * pow(2, -1, modulus) % modulus


class ImportsTest(unittest.TestCase):
    def test_the_checker_draws_on_nothing_of_the_stages_between(self):
        drawn, waiting = set(), ["checker"]
        while waiting:
            name = waiting.pop()
            if name not in drawn:
                drawn.add(name)
                tree = ast.parse((PACKAGE / f"{name}.py").read_text(encoding="utf-8"))
                for node in ast.walk(tree):
                    if isinstance(node, ast.ImportFrom):
                        waiting.append(node.module.partition(".")[2])
        between = (
            "sides rests primeparts wholerows splitting sturm stretches roots rootsums pieces sums areas "
            "bounds combining counting grips lifting papers desk"
        )
        self.assertEqual(drawn & set(between.split()), set())
        self.assertTrue({"kinds", "claims", "together", "reading", "divisors"} <= drawn)


if __name__ == "__main__":
    unittest.main()
