import unittest

from helper import primes_of, slow_leg, slow_longest

from squaretree.answers import Answer, Barred, Halved, Leg, Longest
from squaretree.sides import leg, longest

GREAT = 10**60
PRIMES = [0, 1, -1, -2, -3, -7, 2, 3, 4, 5, 6, 7, 9, 11, 13, 15, 19, 21, 23, 27, 33, 49, 77, 1000003, GREAT, -GREAT]


def wrong_lists(triples, others):
    """Lists that differ from the triples, which are one at least, in one way each."""
    lists = [[], triples[1:], triples[:-1], triples + triples[-1:], triples[:1] + triples, triples + others[:1]]
    lists += [others[:1] + triples, others, triples + [(3, 4, GREAT)]]
    lists += [[(even, odd, longest) for odd, even, longest in triples]]
    lists += [[(odd, even, longest + 1) for odd, even, longest in triples]]
    if len(triples) > 1:
        lists += [triples[::-1], [triples[1], triples[0], *triples[2:]]]
    return lists


class Told(unittest.TestCase):
    def test_each_shows_its_number(self):
        for number in list(range(2, 400)) + [999997, 999999, 1000000]:
            self.assertIs(True, longest(number).shows(number))
            self.assertIs(True, leg(number).shows(number))

    def test_of_other_numbers(self):
        for number in (5, 65, 85, 1105):
            for other in (2, 3, 4, 5, 13, 65, 85, 1105, 999997, 1000000):
                self.assertIs(number == other, longest(number).shows(other))
        for number in (5, 12, 15, 60, 1000000):
            for other in (2, 3, 4, 5, 12, 15, 60, 62, 999999, 1000000):
                self.assertIs(number == other, leg(number).shows(other))

    def test_all_of_two_numbers(self):
        # (3, 4, 5) is all that 3 has, and all that 4 has.
        self.assertIs(True, leg(3).shows(4))
        self.assertIs(True, leg(4).shows(3))


class Triples(unittest.TestCase):
    def test_longest_right(self):
        for number in (5, 25, 65, 1105, 5525):
            self.assertIs(True, Longest(slow_longest(number)).shows(number))
        self.assertIs(True, Longest([(33, 56, 65), (63, 16, 65)]).shows(65))

    def test_longest_wrong(self):
        for number in (5, 25, 65, 1105):
            for triples in wrong_lists(slow_longest(number), slow_longest(85)):
                self.assertIs(False, Longest(triples).shows(number), triples)

    def test_longest_at_a_barred_number(self):
        for number in (2, 3, 4, 7, 9, 15, 45, 50, 325 * 3, 1000000):
            for triples in ([], [(3, 4, 5)], [(9, 12, 15)], [(27, 36, 45)], [(63, 16, 65)]):
                self.assertIs(False, Longest(triples).shows(number))

    def test_no_common_divisor(self):
        self.assertIs(False, Longest([(7, 24, 25), (15, 20, 25)]).shows(25))
        self.assertIs(False, Leg([(15, 8, 17), (15, 20, 25), (15, 112, 113)]).shows(15))

    def test_leg_right(self):
        for number in (3, 4, 5, 8, 12, 15, 60, 105):
            self.assertIs(True, Leg(slow_leg(number)).shows(number))
        self.assertIs(True, Leg([(5, 12, 13), (35, 12, 37)]).shows(12))

    def test_leg_wrong(self):
        for number in (3, 4, 12, 15, 60, 105):
            for triples in wrong_lists(slow_leg(number), slow_leg(20)):
                self.assertIs(False, Leg(triples).shows(number), triples)

    def test_leg_at_a_halved_number(self):
        for number in (2, 6, 10, 30, 999998):
            for triples in ([], [(3, 4, 5)], [(6, 8, 10)], [(8, 6, 10)]):
                self.assertIs(False, Leg(triples).shows(number))

    def test_one_is_not_the_other(self):
        self.assertIs(False, Longest([(5, 12, 13)]).shows(5))
        self.assertIs(False, Leg([(3, 4, 5)]).shows(5))


class Bars(unittest.TestCase):
    def test_barred(self):
        for number in [2, 3, 4, 5, 6, 7, 9, 13, 15, 21, 33, 49, 65, 66, 77, 85, 462, 1105, 9009, 999999, 1000000]:
            primes = [prime for prime in primes_of(number) if prime == 2 or prime % 4 == 3]
            for prime in PRIMES + [number, -number, number + 4 * GREAT]:
                self.assertIs(prime in primes, Barred(prime).shows(number), (prime, number))

    def test_each_barring_prime(self):
        for prime in (2, 3, 7, 11):
            self.assertIs(True, Barred(prime).shows(462 * 65))
        for prime in (5, 13, 6, 21, 77, 462):
            self.assertIs(False, Barred(prime).shows(462 * 65))

    def test_great_prime(self):
        self.assertIs(True, Barred(999983).shows(999983))
        self.assertIs(True, Barred(499979).shows(999958))
        self.assertIs(False, Barred(999961).shows(999961))
        self.assertIs(False, Barred(499957).shows(999914))
        self.assertIs(False, Barred(1000003).shows(1000000))

    def test_halved(self):
        for number in list(range(2, 100)) + list(range(999990, 1000001)):
            self.assertIs(number in range(2, 1000001, 4), Halved().shows(number))


class Fields(unittest.TestCase):
    def test_kinds_of_fields(self):
        for answer in (Longest([(3, 4, 5)]), Leg([(3, 4, 5)])):
            self.assertIs(list, type(answer.triples))
            self.assertEqual([(3, 4, 5)], answer.triples)
        self.assertEqual(-7, Barred(-7).prime)

    def test_lists_are_copied(self):
        for told, number in ((Longest, 65), (Leg, 12)):
            triples = slow_longest(65) if told is Longest else slow_leg(12)
            before = list(triples)
            answer = told(triples)
            triples.append((3, 4, 5))
            triples.reverse()
            self.assertEqual(before, answer.triples)
            self.assertIs(True, answer.shows(number))
            answer.triples.clear()
            self.assertEqual(3, len(triples))

    def test_by_the_fields_as_they_stand(self):
        for answer, number in ((longest(65), 65), (leg(12), 12), (Leg(slow_leg(60)), 60)):
            before = list(answer.triples)
            last = answer.triples.pop()
            self.assertIs(False, answer.shows(number))
            answer.triples.insert(0, last)
            self.assertIs(False, answer.shows(number))
            answer.triples = before
            self.assertIs(True, answer.shows(number))
            answer.triples = []
            self.assertIs(False, answer.shows(number))
        answer = longest(65)
        answer.triples[:] = [(13, 84, 85), (77, 36, 85)]
        self.assertIs(False, answer.shows(65))
        self.assertIs(True, answer.shows(85))

    def test_by_the_prime_as_it_stands(self):
        answer = longest(21)
        for prime in (3, 7):
            answer.prime = prime
            self.assertIs(True, answer.shows(21))
        for prime in (0, -3, 2, 21, GREAT):
            answer.prime = prime
            self.assertIs(False, answer.shows(21))

    def test_shows_changes_nothing(self):
        triples = [(63, 16, 65), (33, 56, 65)]
        for answer in (Longest(triples), Leg(triples)):
            answer.shows(65)
            self.assertEqual([(63, 16, 65), (33, 56, 65)], answer.triples)

    def test_beyond_the_numbers_nothing_fails(self):
        for answer in (Longest([]), Leg([]), Longest([(3, 4, 5)]), Leg([(3, 4, 5)]), Barred(2), Barred(0), Halved()):
            for number in (1, 0, -1, -2, -5, 1000001, 1000002, 1000010):
                self.assertIn(answer.shows(number), (True, False))

    def test_under_answer(self):
        for told in (Longest, Barred, Leg, Halved):
            self.assertEqual((Answer,), told.__bases__)
            self.assertIn("shows", vars(told))


if __name__ == "__main__":
    unittest.main()
