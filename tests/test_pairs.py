import unittest

from helper import at_once, is_triple, pairs_up_to, slow_longest, triple_by

from squaretree.pairs import pair_of, triple_of


class Pairs(unittest.TestCase):
    def test_first(self):
        self.assertEqual(pair_of((3, 4, 5)), (2, 1))
        self.assertEqual(triple_of((2, 1)), (3, 4, 5))

    def test_known(self):
        for pair, triple in [
            ((3, 2), (5, 12, 13)),
            ((4, 1), (15, 8, 17)),
            ((5, 2), (21, 20, 29)),
            ((4, 3), (7, 24, 25)),
            ((10, 3), (91, 60, 109)),
        ]:
            self.assertEqual(triple_of(pair), triple)
            self.assertEqual(pair_of(triple), pair)

    def test_many_there_and_back(self):
        for pair in pairs_up_to(80):
            triple = triple_of(pair)
            self.assertEqual(triple, triple_by(*pair))
            self.assertTrue(is_triple(triple))
            self.assertEqual(pair_of(triple), pair)

    def test_every_triple_has_a_pair(self):
        for longest in range(1, 600):
            for triple in slow_longest(longest):
                self.assertEqual(triple_of(pair_of(triple)), triple)

    def test_kinds(self):
        self.assertIs(tuple, type(pair_of((3, 4, 5))))
        self.assertIs(tuple, type(triple_of((2, 1))))
        for told in [pair_of((5, 12, 13)), triple_of((3, 2))]:
            self.assertEqual({int}, {type(part) for part in told})

    def test_great(self):
        with at_once():
            for pair in [(10**40, 1), (10**40 + 1, 10**40), (2 * 10**3000, 10**3000 - 1), (10**20000, 7)]:
                triple = triple_of(pair)
                self.assertEqual(triple, triple_by(*pair))
                self.assertEqual(pair_of(triple), pair)


if __name__ == "__main__":
    unittest.main()
