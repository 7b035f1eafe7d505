import unittest

from helper import WRONG_KINDS, Odd, at_once

from squaretree.errors import BadNumber, BadPair, BadRow, BadStep, BadTriple, TripleError
from squaretree.pairs import pair_of, triple_of
from squaretree.rows import back, by_row, row_of, stepped
from squaretree.sides import leg, longest

GREAT = 10**5000
NESTED = []
NESTED.append(NESTED)

NO_TRIPLES = WRONG_KINDS + [
    NESTED, [3, 4, 5], 3, -3, (), (3,), (3, 4), (3, 4, 5, 6), (3, 4, 5, 5), ((3, 4, 5),), (2, 1),
    (None, 4, 5), (3, None, 5), (3, 4, None), (True, 4, 5), (3, 4, True), (False, False, False),
    ("3", "4", "5"), ("3", 4, 5), (3, [4], 5), (3, 4, (5,)), (Odd(), 4, 5), (3, Odd(), 5), (3, 4, Odd()),
    (3 + 0j, 4, 5), (b"3", 4, 5),
    (4, 3, 5), (3, 5, 4), (5, 4, 3), (4, 5, 3), (5, 3, 4), (12, 5, 13), (8, 15, 17),
    (6, 8, 10), (8, 6, 10), (9, 12, 15), (15, 20, 25), (27, 36, 45), (12, 16, 20), (21, 28, 35),
    (1, 0, 1), (0, 1, 1), (0, 0, 0), (0, 4, 4), (0, 4, 5), (3, 0, 3), (3, 4, 0), (1, 1, 1), (1, 2, 3),
    (-3, 4, 5), (3, -4, 5), (3, 4, -5), (-3, -4, -5), (-3, -4, 5), (-1, 0, 1), (-5, 4, 3), (-5, 4, -3),
    (3, 4, 6), (3, 6, 5), (5, 4, 5), (3, 4, 7), (7, 4, 5), (5, 12, 15), (1, 4, 5), (3, 4, 3), (7, 24, 26),
    (GREAT, 4, 5), (3, GREAT, 5), (3, 4, GREAT), (GREAT, GREAT, GREAT), (-GREAT, 4, GREAT), (3, -GREAT, 5),
    (3 * GREAT, 4 * GREAT, 5 * GREAT), (GREAT**2 - 1, 2 * GREAT, GREAT**2 + 3), (2 * GREAT, GREAT**2 - 1, GREAT**2 + 1),
]

NO_PAIRS = WRONG_KINDS + [
    NESTED, [2, 1], 2, (), (2,), (2, 1, 0), (3, 4, 5), ((2, 1),), (None, 1), (2, None), (2, True), (True, False),
    ("2", 1), (2, "1"), ("2", "1"), ([2], 1), (2, (1,)), (Odd(), 1), (2, Odd()), (2 + 0j, 1),
    (3, 1), (5, 3), (7, 1), (101, 99),
    (4, 2), (6, 3), (9, 6), (10, 5), (15, 6), (GREAT * 2, GREAT),
    (1, 2), (2, 3), (2, 2), (1, 1), (1, 4), (4, 7), (GREAT, GREAT + 1),
    (1, 0), (2, 0), (0, 0), (0, 1), (3, 0), (GREAT, 0),
    (2, -1), (-2, 1), (-2, -1), (-1, -2), (1, -2), (-1, 2), (0, -1), (GREAT, -1), (-1, -GREAT),
]

NO_STEPS = WRONG_KINDS + [-1, 3, 4, -GREAT, GREAT, (0,), [0], (1, 1), "0", "1", 1 + 0j]

NO_PARTS = WRONG_KINDS + [
    0, 1, 2, (), (0,), (0, 1, 1), [0, 1], ((0, 1),), "01", b"01", {0: 1},
    (3, 1), (-1, 1), (GREAT, 1), (True, 1), (False, 1), (None, 1), ("0", 1), (Odd(), 1), ((0,), 1), (1 + 0j, 1),
    (0, 0), (1, 0), (2, 0), (0, -1), (1, -1), (2, -1), (0, -GREAT), (0, True), (1, True), (2, False), (0, None),
    (2, "1"), (0, Odd()), (1, [1]), (2, (1,)), (0, 1 + 0j),
    (1, 1001), (1, 1002), (1, GREAT),
]

NO_NUMBERS = WRONG_KINDS + [
    NESTED, [5], (5,), "5", 1, 0, -1, -2, -5, -1000000, 1000001, 1000002, 1000010, 2000000, GREAT, -GREAT, 5 + 0j,
]


class Refusals(unittest.TestCase):
    def refused(self, error, call, *arguments):
        with at_once():
            try:
                told = call(*arguments)
            except Exception as caught:
                self.assertIs(error, type(caught))
                return
        self.fail(f"told a {type(told)}")

    def test_errors(self):
        self.assertEqual((ValueError,), TripleError.__bases__)
        for error in (BadTriple, BadPair, BadStep, BadRow, BadNumber):
            self.assertEqual((TripleError,), error.__bases__)

    def test_triples(self):
        for at, wrong in enumerate(NO_TRIPLES):
            with self.subTest(at=at):
                self.refused(BadTriple, pair_of, wrong)
                self.refused(BadTriple, back, wrong)
                self.refused(BadTriple, row_of, wrong)
                for step in (0, 1, 2):
                    self.refused(BadTriple, stepped, wrong, step)

    def test_pairs(self):
        for at, wrong in enumerate(NO_PAIRS):
            with self.subTest(at=at):
                self.refused(BadPair, triple_of, wrong)

    def test_steps(self):
        for at, wrong in enumerate(NO_STEPS):
            with self.subTest(at=at):
                self.refused(BadStep, stepped, (3, 4, 5), wrong)
                self.refused(BadStep, stepped, (91, 60, 109), wrong)

    def test_triple_before_step(self):
        for step in (None, True, 3, -1, "0", Odd()):
            for triple in (None, True, (4, 3, 5), (6, 8, 10), [3, 4, 5], Odd()):
                self.refused(BadTriple, stepped, triple, step)

    def test_rows_of_wrong_parts(self):
        for at, wrong in enumerate(NO_PARTS):
            with self.subTest(at=at):
                self.refused(BadRow, by_row, [wrong])
                self.refused(BadRow, by_row, [(0, 2), (2, 3), wrong])
                self.refused(BadRow, by_row, [wrong, (0, 2), (2, 3)])

    def test_no_list(self):
        for at, wrong in enumerate(WRONG_KINDS + [NESTED, 0, 1, (), ((0, 1),), (0, 1), {(0, 1): 1}, "01", iter([(0, 1)])]):
            with self.subTest(at=at):
                self.refused(BadRow, by_row, wrong)

    def test_one_step_twice(self):
        for step in (0, 1, 2):
            other = (step + 1) % 3
            self.refused(BadRow, by_row, [(step, 1), (step, 1)])
            self.refused(BadRow, by_row, [(other, 1), (step, 1), (step, 2)])
            self.refused(BadRow, by_row, [(step, 1), (other, 1), (other, 1), (step, 2)])
            self.assertEqual(3, len(by_row([(step, 1), (other, 1), (step, 1)])))

    def test_edges_of_rows(self):
        row = [(at % 2 * 2, 1) for at in range(201)]
        self.assertEqual(3, len(by_row(row[:200])))
        self.refused(BadRow, by_row, row)
        self.refused(BadRow, by_row, row * 5)
        self.assertEqual(3, len(by_row([(1, 1000)])))
        self.refused(BadRow, by_row, [(1, 1001)])
        self.assertEqual(3, len(by_row([(0, 1001), (2, 1001), (1, 999)])))

    def test_numbers(self):
        for at, wrong in enumerate(NO_NUMBERS):
            with self.subTest(at=at):
                self.refused(BadNumber, longest, wrong)
                self.refused(BadNumber, leg, wrong)

    def test_edges_of_numbers(self):
        for number in (2, 3, 999999, 1000000):
            self.assertTrue(longest(number).shows(number))
            self.assertTrue(leg(number).shows(number))


if __name__ == "__main__":
    unittest.main()
