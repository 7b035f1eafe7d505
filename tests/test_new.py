"""Nothing handed in is changed or kept, and what is told is new."""

import unittest

from squaretree.answers import Leg, Longest
from squaretree.pairs import pair_of, triple_of
from squaretree.rows import back, by_row, row_of, stepped
from squaretree.sides import leg, longest


class New(unittest.TestCase):
    def test_rows_handed_in_stay(self):
        for row in ([], [(0, 1)], [(1, 2), (0, 10**40), (2, 3)]):
            before = list(row)
            triple = by_row(row)
            self.assertEqual(before, row)
            row.append((1, 5))
            self.assertEqual(triple, by_row(before))
            self.assertEqual(before, row_of(triple))

    def test_wrong_rows_stay(self):
        row = [(0, 1), (0, 1), [2, 1]]
        with self.assertRaises(ValueError):
            by_row(row)
        self.assertEqual([(0, 1), (0, 1), [2, 1]], row)

    def test_triples_and_pairs_stay(self):
        triple, pair = (91, 60, 109), (10, 3)
        pair_of(triple), back(triple), row_of(triple), stepped(triple, 1), triple_of(pair)
        self.assertEqual(((91, 60, 109), (10, 3)), (triple, pair))

    def test_rows_told_are_new(self):
        for triple in ((3, 4, 5), (91, 60, 109)):
            row = row_of(triple)
            before = list(row)
            row.append((0, 1))
            row.reverse()
            self.assertEqual(before, row_of(triple))
            self.assertIsNot(row_of(triple), row_of(triple))

    def test_answers_told_are_new(self):
        for ask, number in ((longest, 65), (leg, 60), (leg, 3), (longest, 5)):
            answer = ask(number)
            before = list(answer.triples)
            answer.triples.clear()
            self.assertEqual(before, ask(number).triples)
            self.assertIsNot(ask(number).triples, ask(number).triples)
            self.assertTrue(ask(number).shows(number))
            self.assertFalse(answer.shows(number))

    def test_bars_told_are_new(self):
        answer = longest(21)
        before = answer.prime
        answer.prime = 0
        self.assertEqual(before, longest(21).prime)
        self.assertIsNot(leg(6), leg(6))

    def test_lists_made_of_stay(self):
        for told in (Longest, Leg):
            triples = [(63, 16, 65), (33, 56, 65)]
            answer = told(triples)
            answer.shows(65)
            answer.triples.sort()
            self.assertEqual([(63, 16, 65), (33, 56, 65)], triples)


if __name__ == "__main__":
    unittest.main()
