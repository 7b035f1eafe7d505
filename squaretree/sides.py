"""Of a number, all triples with that side, or what bars it."""

from squaretree.answers import Barred, Halved, Leg, Longest
from squaretree.errors import BadNumber
from squaretree.whole import barring_primes, is_side, triples_by_leg, triples_by_longest


def longest(number):
    """Give all triples whose longest side is the number, or a prime that bars it."""
    _check_side(number)
    primes = barring_primes(number)
    if len(primes) > 0:
        return Barred(primes[0])
    return Longest(triples_by_longest(number))


def leg(number):
    """Give all triples whose first or second number is the number, or that it is halved."""
    _check_side(number)
    if number % 4 == 2:
        return Halved()
    return Leg(triples_by_leg(number))


def _check_side(number):
    if not is_side(number):
        raise BadNumber("a side is a whole number from 2 to 1000000")
