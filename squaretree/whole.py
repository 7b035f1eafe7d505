"""What the other files share: kinds of values, pairs, and the search for sides."""

from math import gcd, isqrt

LEAST = 2
GREATEST = 1000000


def is_whole(value):
    """Tell whether the value is a whole number; True and False are none."""
    return isinstance(value, int) and not isinstance(value, bool)


def are_whole(value, many):
    """Tell whether the value is a tuple of just so many whole numbers."""
    return isinstance(value, tuple) and len(value) == many and all([is_whole(part) for part in value])


def is_side(value):
    """Tell whether the value is a number that may be asked for as a side."""
    return is_whole(value) and LEAST <= value <= GREATEST


def is_pair(value):
    """Tell whether the value is the pair of a triple."""
    if not are_whole(value, 2):
        return False
    m, n = value
    return 0 < n < m and (m - n) % 2 == 1 and gcd(m, n) == 1


def formed(m, n):
    """Give the triple of the pair (m, n), which is known to be one."""
    greater = m * m
    lesser = n * n
    return (greater - lesser, 2 * m * n, greater + lesser)


def barring_primes(number):
    """Give the primes that go into the number and are 2 or leave 3 by 4, ascending."""
    return [prime for prime in _primes_of(number) if prime == 2 or prime % 4 == 3]


def _primes_of(number):
    """Give each prime that goes into the number once, ascending."""
    primes = []
    rest = number
    divisor = 2
    while divisor * divisor <= rest:
        if rest % divisor == 0:
            primes.append(divisor)
        while rest % divisor == 0:
            rest //= divisor
        divisor += 1
    if rest > 1:
        primes.append(rest)
    return primes


def triples_by_longest(number):
    """Give all triples whose longest side is the number, in the order of tuples."""
    pairs = [(isqrt(number - n * n), n) for n in range(1, isqrt(number // 2) + 1)]
    return sorted([formed(m, n) for m, n in pairs if m * m + n * n == number and is_pair((m, n))])


def triples_by_leg(number):
    """Give all triples whose first or second number is the number, in the order of tuples."""
    pairs = _pairs_by_even(number) if number % 2 == 0 else _pairs_by_odd(number)
    return sorted([formed(m, n) for m, n in pairs if is_pair((m, n))])


def _pairs_by_even(number):
    """Give each m and n of which twice the product is the number, n not above m."""
    half = number // 2
    return [(half // n, n) for n in range(1, isqrt(half) + 1) if half % n == 0]


def _pairs_by_odd(number):
    """Give each m and n whose sum and difference have the number as their product."""
    lesser = [divisor for divisor in range(1, isqrt(number) + 1) if number % divisor == 0]
    return [((number // less + less) // 2, (number // less - less) // 2) for less in lesser]
