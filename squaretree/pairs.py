"""The pair of a triple and the triple of a pair."""

from math import isqrt

from squaretree.errors import BadPair, BadTriple
from squaretree.whole import are_whole, formed, is_pair


def pair_of(triple):
    """Give the pair of the triple."""
    if not are_whole(triple, 3):
        raise BadTriple("a triple is a tuple of three whole numbers")
    odd, even, longest = triple
    # Roots are taken next, and there are none of numbers below 0.
    if not 0 < odd < longest:
        raise BadTriple("the longest side of a triple is above the others, and they are above 0")
    m = isqrt((longest + odd) // 2)
    n = isqrt((longest - odd) // 2)
    # Each triple has a pair that forms it, so that numbers without one are no triple.
    if formed(m, n) != (odd, even, longest) or not is_pair((m, n)):
        raise BadTriple("a triple is odd, even and longest, by squares, without a common divisor")
    return (m, n)


def triple_of(pair):
    """Give the triple of the pair."""
    if not is_pair(pair):
        raise BadPair("a pair is m and n, one odd, one even, m above n, n above 0, without a common divisor")
    m, n = pair
    return formed(m, n)
