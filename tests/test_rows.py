import unittest

from helper import at_once, is_triple, pairs_up_to, triple_by

from squaretree.pairs import pair_of
from squaretree.rows import back, by_row, row_of, stepped

FIRST = (3, 4, 5)
FORTY = 1234567890123456789012345678901234567890


def slow_step(pair, step):
    m, n = pair
    return [(2 * m - n, m), (2 * m + n, m), (m + 2 * n, n)][step]


def slow_row(row):
    pair = (2, 1)
    for step, times in row:
        for _ in range(times):
            pair = slow_step(pair, step)
    return triple_by(*pair)


def small_rows():
    """All rows of at most three pairs with counts up to 3."""
    rows = [[]]
    last = [[]]
    for _ in range(3):
        last = [
            row + [(step, times)]
            for row in last
            for step in (0, 1, 2)
            for times in (1, 2, 3)
            if not row or row[-1][0] != step
        ]
        rows += last
    return rows


class Steps(unittest.TestCase):
    def test_from_the_first(self):
        self.assertEqual(stepped(FIRST, 0), (5, 12, 13))
        self.assertEqual(stepped(FIRST, 1), (21, 20, 29))
        self.assertEqual(stepped(FIRST, 2), (15, 8, 17))

    def test_back_to_the_first(self):
        self.assertEqual(back((5, 12, 13)), (FIRST, 0))
        self.assertEqual(back((21, 20, 29)), (FIRST, 1))
        self.assertEqual(back((15, 8, 17)), (FIRST, 2))

    def test_none_leads_to_the_first(self):
        self.assertIsNone(back(FIRST))

    def test_many(self):
        for pair in pairs_up_to(40):
            triple = triple_by(*pair)
            for step in (0, 1, 2):
                further = stepped(triple, step)
                self.assertEqual(further, triple_by(*slow_step(pair, step)))
                self.assertTrue(is_triple(further))
                self.assertEqual(back(further), (triple, step))

    def test_all_lead_to_the_first(self):
        for pair in pairs_up_to(60):
            triple = triple_by(*pair)
            while triple != FIRST:
                before, step = back(triple)
                self.assertEqual(stepped(before, step), triple)
                self.assertLess(before[2], triple[2])
                triple = before

    def test_kinds(self):
        self.assertIs(tuple, type(stepped(FIRST, 1)))
        told = back((5, 12, 13))
        self.assertIs(tuple, type(told))
        self.assertIs(tuple, type(told[0]))
        self.assertIs(int, type(told[1]))

    def test_great(self):
        triple = triple_by(FORTY * FORTY, 10**39 + 1)
        with at_once():
            for _ in range(50):
                for step in (0, 1, 2):
                    further = stepped(triple, step)
                    self.assertEqual(back(further), (triple, step))
                    triple = further


class Rows(unittest.TestCase):
    def check(self, row, triple):
        self.assertEqual(by_row(row), triple)
        self.assertEqual(row_of(triple), row)

    def test_none(self):
        self.check([], FIRST)

    def test_one(self):
        self.check([(0, 1)], (5, 12, 13))
        self.check([(1, 1)], (21, 20, 29))
        self.check([(2, 1)], (15, 8, 17))
        self.check([(0, 2)], (7, 24, 25))

    def test_several(self):
        self.check([(1, 2), (0, 1)], slow_row([(1, 2), (0, 1)]))
        self.check([(2, 3), (1, 4), (0, 5), (2, 1)], slow_row([(2, 3), (1, 4), (0, 5), (2, 1)]))

    def test_all_small(self):
        for row in small_rows():
            self.check(row, slow_row(row))

    def test_each_count(self):
        for step in (0, 1, 2):
            for times in range(1, 70):
                self.check([(step, times)], slow_row([(step, times)]))
                row = [(step, times), ((step + 1) % 3, 2), (step, times)]
                self.check(row, slow_row(row))

    def test_rows_of_many_triples(self):
        for pair in pairs_up_to(60):
            triple = triple_by(*pair)
            row = row_of(triple)
            self.assertEqual(slow_row(row), triple)
            self.assertTrue(all(times > 0 for _, times in row))
            self.assertTrue(all(one[0] != other[0] for one, other in zip(row, row[1:])))

    def test_kinds(self):
        row = row_of(by_row([(1, 2), (0, 1)]))
        self.assertIs(list, type(row))
        self.assertEqual([tuple, tuple], [type(part) for part in row])
        self.assertEqual({int}, {type(number) for part in row for number in part})
        self.assertIs(tuple, type(by_row(row)))

    def test_two_hundred(self):
        with at_once():
            for first in (0, 1, 2):
                row = [((first + at) % 3, at % 7 + 1) for at in range(200)]
                self.check(row, slow_row(row))

    def test_forty_figures(self):
        with at_once():
            self.check([(0, FORTY)], triple_by(FORTY + 2, FORTY + 1))
            self.check([(2, FORTY)], triple_by(2 * FORTY + 2, 1))
            # After (2, 2): (6, 1); after step 0 the gap 5 is added so often; then step 2.
            m, n = 6 + 5 * FORTY, 1 + 5 * FORTY
            self.check([(2, 2), (0, FORTY)], triple_by(m, n))
            self.check([(2, 2), (0, FORTY), (2, FORTY)], triple_by(m + 2 * n * FORTY, n))

    def test_forty_figures_in_two_hundred(self):
        with at_once():
            for one, other in [(0, 2), (2, 0)]:
                row = [(one if at % 2 == 0 else other, FORTY + at) for at in range(200)]
                triple = by_row(row)
                self.assertTrue(is_triple(triple))
                self.assertEqual(row_of(triple), row)

    def test_step_1_a_thousand_times(self):
        with at_once():
            self.check([(1, 1000)], slow_row([(1, 1000)]))
            row = [(0, 3), (1, 1000), (2, 2), (1, 999), (0, 1)]
            self.check(row, slow_row(row))

    def test_greatest_row(self):
        for other in (0, 2):
            row = [(1, 1000) if at % 2 == 0 else (other, FORTY) for at in range(200)]
            with at_once():
                triple = by_row(row)
            self.assertEqual(triple, triple_by(*pair_of(triple)))
            with at_once():
                self.assertEqual(row_of(triple), row)

    def test_very_great_count(self):
        count = 10**20000
        with at_once():
            self.check([(0, count)], triple_by(count + 2, count + 1))
            self.check([(2, count)], triple_by(2 * count + 2, 1))


if __name__ == "__main__":
    unittest.main()
