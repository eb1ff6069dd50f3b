"""Point 22, of the words of claims and what stands behind them."""

import unittest

from paperwright.claims import WORDS, is_claim, is_paper
from reference import row_of

ONE = row_of(1)
ROW = row_of(0, 1)
WHOLE = [0, 1]
ROOT = ([0, 1], 0)
STRETCH = ((-1, 1), (1, 1))
QUOTIENT = (ONE, ROW)
WHOLENESS = (2, 1, [[0, 1]])

# Of each word a claim and a paper that are written well, be they true or not.
WRITTEN = (
    (("common", ROW, ROW, ONE), (ROW, [], ROW, ONE)),
    (("bare", ROW), (ROW, [])),
    (("unsplit", WHOLE), WHOLENESS),
    (("split", ROW, (1, 2), [(WHOLE, 3)]), [WHOLENESS]),
    (("roots", ROW, [STRETCH]), (ROW, [])),
    (("same", "x", "y"), None),
    (("unlike", "x", "y"), [("x", (1, 2)), ("y", (0, 1))]),
    (("sign", ROW, ROOT, -1), (WHOLENESS, (-1, 1), (1, 1))),
    (("plus", ROOT, ROOT, ROOT), ([WHOLENESS] * 3, ROW, [STRETCH] * 3)),
    (("times", ROOT, ROOT, ROOT), ([WHOLENESS] * 3, ROW, [STRETCH] * 3)),
    (("parted", QUOTIENT, ROW, [(WHOLE, 1, ONE)]), [WHOLENESS]),
    (("sum", QUOTIENT, QUOTIENT), None),
    (("area", QUOTIENT, QUOTIENT), None),
    (("no sum", QUOTIENT), (QUOTIENT, QUOTIENT, [(WHOLE, 1, WHOLENESS)])),
    (("no area", QUOTIENT), (QUOTIENT, QUOTIENT, None)),
)
OTHERS = (None, True, 1, "x", [], (), {}, [1], (1,), {"x": 1}, ROW, WHOLENESS, QUOTIENT)


class ClaimsTest(unittest.TestCase):
    def test_the_fifteen_words(self):
        self.assertEqual([claim[0] for claim, paper in WRITTEN], list(WORDS))
        self.assertEqual(len(WORDS), 15)

    def test_what_is_written_well(self):
        for claim, paper in WRITTEN:
            self.assertIs(is_claim(claim), True, claim)
            self.assertIs(is_paper(claim[0], paper), True, paper)

    def test_other_words_and_no_claims(self):
        for claim, paper in WRITTEN:
            for word in ("", "Common", claim[0] + " ", claim[0].upper(), None, True, 1, [claim[0]], (claim[0],), {}):
                self.assertIs(is_claim((word,) + claim[1:]), False)
            self.assertIs(is_claim(list(claim)), False)
            self.assertIs(is_claim(claim[0]), False)
            self.assertIs(is_claim({claim[0]: claim[1:]}), False)
        for thing in OTHERS + ((), ([],), ({},), (None,)):
            self.assertIs(is_claim(thing), False)

    def test_another_number_of_parts(self):
        for claim, paper in WRITTEN:
            self.assertIs(is_claim(claim[:-1]), False)
            self.assertIs(is_claim(claim + (claim[-1],)), False)
            self.assertIs(is_claim(claim + (None,)), False)
            self.assertIs(is_claim(claim[1:]), False)
            if isinstance(paper, tuple):
                self.assertIs(is_paper(claim[0], paper[:-1]), False)
                self.assertIs(is_paper(claim[0], paper + (None,)), False)

    def test_parts_of_other_kinds(self):
        for claim, paper in WRITTEN:
            for place in range(1, len(claim)):
                for other in (None, True, False, {}, {"x": 1}, [None], (None,), [True], [{}], ("x",), [[]]):
                    self.assertIs(is_claim(claim[:place] + (other,) + claim[place + 1:]), False, (claim, other))

    def test_papers_of_other_kinds(self):
        for claim, paper in WRITTEN:
            for other in OTHERS:
                meant = other is None and paper is None or other == [] and isinstance(paper, list)
                meant = meant or other is WHOLENESS and paper is WHOLENESS
                meant = meant or claim[0] in ("bare", "roots") and other is QUOTIENT
                self.assertIs(is_paper(claim[0], other), meant, (claim, other))


if __name__ == "__main__":
    unittest.main()
