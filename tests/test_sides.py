import unittest

from helper import is_triple, primes_of, slow_leg, slow_longest

from squaretree.answers import Barred, Halved, Leg, Longest
from squaretree.sides import leg, longest


class LongestSides(unittest.TestCase):
    def check(self, number, triples):
        told = longest(number)
        if triples:
            self.assertIs(Longest, type(told))
            self.assertIs(list, type(told.triples))
            self.assertEqual(triples, told.triples)
        else:
            self.assertIs(Barred, type(told))
            self.assertIs(int, type(told.prime))
            self.assertIn(told.prime, primes_of(number))
            self.assertTrue(told.prime == 2 or told.prime % 4 == 3)
        self.assertTrue(told.shows(number))

    def test_one(self):
        self.check(5, [(3, 4, 5)])
        self.check(13, [(5, 12, 13)])
        self.check(25, [(7, 24, 25)])

    def test_several(self):
        self.check(65, [(33, 56, 65), (63, 16, 65)])
        self.check(85, [(13, 84, 85), (77, 36, 85)])
        self.check(1105, [(47, 1104, 1105), (817, 744, 1105), (943, 576, 1105), (1073, 264, 1105)])

    def test_eight(self):
        self.check(32045, slow_longest(32045))
        self.assertEqual(8, len(longest(32045).triples))

    def test_barred(self):
        for number, primes in [(2, [2]), (3, [3]), (4, [2]), (7, [7]), (9, [3]), (35, [7]), (42, [2, 3, 7]), (715, [11])]:
            self.check(number, [])
            self.assertIn(longest(number).prime, primes)

    def test_small(self):
        for number in range(2, 900):
            self.check(number, slow_longest(number))

    def test_edges(self):
        for number in [2, 3, 4, 5, 1000000, 999999, 999998, 999997, 999994, 999985, 999961, 999925, 999889]:
            self.check(number, slow_longest(number))

    def test_known_edges(self):
        self.assertEqual(2, longest(2).prime)
        self.assertEqual(2, longest(1000000).prime)
        self.assertEqual(999983, longest(999983).prime)
        self.check(999961, [(170489, 985320, 999961)])
        self.check(999997, [(587765, 809028, 999997), (924725, 380628, 999997)])


class Legs(unittest.TestCase):
    def check(self, number, triples):
        told = leg(number)
        if triples:
            self.assertIs(Leg, type(told))
            self.assertIs(list, type(told.triples))
            self.assertEqual(triples, told.triples)
        else:
            self.assertEqual(2, number % 4)
            self.assertIs(Halved, type(told))
        self.assertTrue(told.shows(number))

    def test_one(self):
        self.check(3, [(3, 4, 5)])
        self.check(4, [(3, 4, 5)])
        self.check(8, [(15, 8, 17)])
        self.check(9, [(9, 40, 41)])

    def test_several(self):
        self.check(15, [(15, 8, 17), (15, 112, 113)])
        self.check(12, [(5, 12, 13), (35, 12, 37)])
        self.check(60, [(11, 60, 61), (91, 60, 109), (221, 60, 229), (899, 60, 901)])

    def test_halved(self):
        for number in [2, 6, 10, 30, 999998, 999994]:
            self.check(number, [])

    def test_small(self):
        for number in range(2, 160):
            self.check(number, slow_leg(number))

    def test_great(self):
        for number in list(range(999960, 1000001)) + [510510, 255255, 840840, 720720]:
            if number % 4 == 2:
                self.check(number, [])
                continue
            triples = leg(number).triples
            self.assertEqual(sorted(set(triples)), triples)
            self.assertTrue(all(is_triple(triple) and number in triple[:2] for triple in triples))
            # Each prime power goes whole into one of two parts, and which is which is given.
            self.assertEqual(2 ** (len(primes_of(number)) - 1), len(triples))
            self.check(number, triples)

    def test_edges(self):
        self.check(2, [])
        self.check(1000000, [(244139601, 1000000, 244141649), (249999999999, 1000000, 250000000001)])
        self.assertIn((999999, 499999000000, 499999000001), leg(999999).triples)


if __name__ == "__main__":
    unittest.main()
