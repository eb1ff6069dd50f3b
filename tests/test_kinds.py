"""Point 22, of how the things in claims and papers are written, and of their bounds."""

import unittest

from paperwright.kinds import KINDS, LISTS, fits
from reference import owned, row_of

ONE = row_of(1)
LONG = [(0, 1)] * 199 + [(1, 1)]
LONG_WHOLE = [0] * 199 + [1]
WHOLENESS = (3, 2, [[8, 4, 1], [8, 5, 1]])

# For each kind: things of it, and things that aren't.
CASES = {
    "nothing": ([None], [0, False, "", [], (), {}, "None"]),
    "number": ([0, 1, -1, 10 ** 400], [True, False, None, "1", (1, 1), [1], {}]),
    "how often": ([1, 2, 10 ** 400], [0, -1, True, None, "1", (1, 1), [1]]),
    "text": (["", "x", "x" * 1000, "\n"], ["x" * 1001, None, 1, True, ["x"], ("x",), {"x": 1}]),
    "fraction": (
        [(0, 1), (1, 1), (-1, 1), (2, 3), (-2, 3), (10 ** 90 + 1, 10 ** 90)],
        [
            (2, 4), (0, 2), (0, 0), (1, 0), (1, -1), (-2, -3), (2, 2), (True, 1), (1, True), (False, 1), (1,), (1, 1, 1),
            [1, 1], 1, None, (), "11", {1: 1}, (None, 1), (1, None), ("1", 1), ((1, 1), 1), (10 ** 90, 10 ** 89),
        ],
    ),
    "row": (
        [[], ONE, row_of(0, 1), row_of(0, 0, -3), LONG],
        [
            [(0, 1)], row_of(1, 0), row_of(0, 1, 0), [(2, 2)], [1], [(True, 1)], [(1, 1), None], ((1, 1),), (), None, 1,
            True, "", {}, [[1, 1]], [(0, 1)] + LONG, [(0, 2), (1, 1)], [(2, 4), (1, 1)],
        ],
    ),
    "whole row": (
        [[0, 1], [1, 1], [-3, 2], [2, 0, 3], LONG_WHOLE, [-4, 0, 1]],
        [
            [], [1], [0], [1, 0], [1, -1], [2, 4], [0, 2], [0, True], [True, 1], [0, 1, 0], (0, 1), None, 1, "01", {},
            [(0, 1), (1, 1)], [0] + LONG_WHOLE, [0, None], [0, "1"],
        ],
    ),
    "wholeness": (
        [WHOLENESS, (9973, 1, [[0, 1]]), (2, 10 ** 400, []), (2, 1, [LONG_WHOLE])],
        [
            (10007, 1, [[0, 1]]), (9975, 1, [[0, 1]]), (1, 1, [[0, 1]]), (0, 1, [[0, 1]]), (-3, 1, [[0, 1]]),
            (9, 1, [[0, 1]]), (True, 1, [[0, 1]]), (3, 0, [[0, 1]]), (3, -1, [[0, 1]]), (3, True, [[0, 1]]),
            (3, 1, ([0, 1],)), (3, 1, [(0, 1)]), (3, 1, [[1]]), (3, 1, [[]]), (3, 1, [[0, 2]]), (3, 1, [[-1, 1]]),
            (3, 1, [[True, 1]]), (3, 1, [[0, True]]), (3, 1), (3, 1, [[0, 1]], None), [3, 1, [[0, 1]]], None, 3, {},
            (3, 1, None), (None, 1, [[0, 1]]), ("3", 1, [[0, 1]]), (3, "1", [[0, 1]]), (2, 1, [[0] + LONG_WHOLE]),
        ],
    ),
    "root": (
        [([0, 1], 0), ([-2, 0, 1], 1), ([1, 0, 1], 10 ** 400)],
        [
            ([0, 1], -1), ([0, 1], True), ([0, 1], None), ([0, 1],), ([0, 1], 0, 0), [[0, 1], 0], ([2, 2], 0), ([1], 0),
            ((0, 1), 0), None, ([0, -1], 0), ([0, 1, 0], 0), (row_of(0, 1), 0), ([0, 1], "0"),
        ],
    ),
    "stretch": (
        [((0, 1), (1, 1)), ((-1, 2), (-1, 3)), ((1, 3), (1, 2))],
        [
            ((0, 1), (0, 1)), ((1, 1), (0, 1)), ((0, 1), (2, 2)), [(0, 1), (1, 1)], ((0, 1),), (0, 1), None,
            ((0, 1), (1, 1), (2, 1)), ([0, 1], (1, 1)), ((False, 1), (1, 1)), ((0, 1), (1, True)),
        ],
    ),
    "quotient": (
        [
            ([], ONE), (ONE, ONE), (row_of(0, 1), ONE), (ONE, row_of(0, 1)), (row_of(-3, 5), row_of(1, 0, 1)),
            (LONG, ONE), (ONE, LONG), (LONG, row_of(1, 1)),
        ],
        [
            ([], row_of(0, 1)), ([], row_of(2)), (ONE, row_of(2)), (ONE, row_of(0, 2)), (ONE, []), ([], []), (ONE,),
            (row_of(0, 1), row_of(0, 1)), (row_of(-1, 0, 1), row_of(1, 1)), (row_of(0, 1), row_of(0, 0, 1)), [ONE, ONE],
            (ONE, ONE, ONE), (ONE, None), (None, ONE), ((1, 1), ONE), (tuple(ONE), ONE), ([(2, 2)], ONE), None,
            ([(0, 1)], ONE), (row_of(1, 0), ONE), (ONE, [(0, 1)] + LONG), ([(0, 1)] + LONG, ONE), (LONG, LONG),
        ],
    ),
    "piece": (
        [([0, 1], 1, ONE), ([1, 0, 1], 7, row_of(0, 1)), ([1, 0, 1], 1, ONE)],
        [
            ([0, 1], 1, []), ([0, 1], 1, row_of(0, 1)), ([0, 1], 0, ONE), ([0, 1], True, ONE), ([0, 2], 1, ONE),
            ([1, 0, 1], 1, row_of(0, 0, 1)), [[0, 1], 1, ONE], ([0, 1], 1), ([0, 1], 1, [(2, 2)]), ([0, 1], 1, None),
            ([1], 1, ONE), (row_of(0, 1), 1, ONE), None, ([0, 1], 1, (1, 1)), ([0, 1], 1, ONE, None),
        ],
    ),
}

# For each kind of lists something that may stand in one, and something that may not.
MEMBERS = {
    "parts": (([0, 1], 1), ([0, 1], 0)),
    "shown parts": (([0, 1], 1, WHOLENESS), ([0, 1], 1, None)),
    "point": (("x", (1, 2)), ("x", (2, 2))),
    "wholenesses": (WHOLENESS, list(WHOLENESS)),
    "stretches": (((0, 1), (1, 1)), ((1, 1), (0, 1))),
    "pieces": (([0, 1], 1, ONE), ([0, 1], 1, [])),
}


class KindsTest(unittest.TestCase):
    def test_every_kind_is_asked(self):
        self.assertEqual(sorted(CASES), sorted(KINDS))
        self.assertEqual(sorted(MEMBERS), sorted(LISTS))

    def test_things_of_the_kind(self):
        for kind, (good, bad) in CASES.items():
            for thing in good:
                with self.subTest(kind=kind, thing=thing):
                    self.assertIs(fits(kind, thing), True)

    def test_things_that_are_not(self):
        for kind, (good, bad) in CASES.items():
            for thing in bad:
                with self.subTest(kind=kind, thing=thing):
                    self.assertIs(fits(kind, thing), False)

    def test_things_of_other_kinds_are_answered(self):
        things = [thing for good, bad in CASES.values() for thing in good + bad]
        for kind in list(KINDS) + list(LISTS):
            for thing in things + [things, {"a": things}, [{}], [[]], [()], ({}, {}), ({}, {}, {})]:
                self.assertIn(fits(kind, thing), (True, False))

    def test_lists(self):
        for kind, (good, bad) in MEMBERS.items():
            for thing in ([], [good], [good] * 300):
                self.assertIs(fits(kind, thing), True)
            for thing in ([bad], [good, bad], [bad, good], (good,), None, {}, "", 1, good, [[good]], [None], [True]):
                self.assertIs(fits(kind, thing), False, (kind, thing))

    def test_tuples(self):
        self.assertIs(fits(("row", "number"), ([], 3)), True)
        self.assertIs(fits((), ()), True)
        for thing in (([], True), ([],), ([], 3, 3), [[], 3], (3, []), None, ()):
            self.assertIs(fits(("row", "number"), thing), False)

    def test_primes_up_to_9973(self):
        primes = [n for n in range(-5, 10100) if fits("wholeness", (n, 1, [[0, 1]]))]
        plain = [n for n in range(2, 9974) if all(n % d for d in range(2, int(n ** 0.5) + 1))]
        self.assertEqual(primes, plain)
        self.assertEqual(primes[-1], 9973)
        self.assertIs(fits("wholeness", (10 ** 400, 1, [])), False)

    def test_nothing_handed_in_is_changed(self):
        for kind, (good, bad) in CASES.items():
            for thing in good + bad:
                owned(self, fits, kind, thing)


if __name__ == "__main__":
    unittest.main()
