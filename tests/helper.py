"""What the tests share: slow and plain searches that know nothing of pairs, and a limit of time."""

import signal
from contextlib import contextmanager
from math import gcd, isqrt


@contextmanager
def at_once(seconds=5):
    """Fail if what stands inside takes longer, instead of waiting for its end."""

    def late(number, frame):
        raise AssertionError("not told at once")

    before = signal.signal(signal.SIGALRM, late)
    signal.setitimer(signal.ITIMER_REAL, seconds)
    try:
        yield
    finally:
        signal.setitimer(signal.ITIMER_REAL, 0)
        signal.signal(signal.SIGALRM, before)


def is_triple(triple):
    odd, even, longest = triple
    return (
        min(triple) > 0
        and odd % 2 == 1
        and even % 2 == 0
        and odd * odd + even * even == longest * longest
        and gcd(odd, even, longest) == 1
    )


def slow_longest(number):
    """All triples with that longest side, by trying each odd number."""
    found = []
    for odd in range(1, number, 2):
        even = isqrt(number * number - odd * odd)
        if is_triple((odd, even, number)):
            found.append((odd, even, number))
    return found


def slow_leg(number):
    """All triples with that first or second number, by trying each other one."""
    found = []
    # The longest side is at least one above the other, so its square is at least 2 other + 1 above.
    for other in range(1, number * number // 2 + 1):
        longest = isqrt(number * number + other * other)
        triple = (number, other, longest) if number % 2 == 1 else (other, number, longest)
        if is_triple(triple):
            found.append(triple)
    return sorted(found)


def primes_of(number):
    return [
        divisor
        for divisor in range(2, number + 1)
        if number % divisor == 0 and all(divisor % less for less in range(2, isqrt(divisor) + 1))
    ]


def pairs_up_to(limit):
    return [(m, n) for m in range(2, limit + 1) for n in range(1, m) if (m + n) % 2 == 1 and gcd(m, n) == 1]


def triple_by(m, n):
    return (m * m - n * n, 2 * m * n, m * m + n * n)


class Odd:
    """An object that no function asks for; even showing it fails."""

    def __repr__(self):
        raise RuntimeError("shown")

    def __eq__(self, other):
        return True

    __hash__ = None


# Of no kind that any function with a refusal asks for as a whole.
WRONG_KINDS = [
    None, True, False, "", "text", "(3, 4, 5)", b"345", {}, {3: 4}, set(), frozenset((3, 4, 5)),
    Odd(), Odd, len, 1 + 2j, range(3), iter((3, 4, 5)), zip([3], [4]), ValueError("3"), NotImplemented, ...,
]
