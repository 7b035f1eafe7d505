"""What is told of a side: all its triples, or why it has none."""

from squaretree.whole import barring_primes, is_side, triples_by_leg, triples_by_longest


class Answer:
    """What is told of a number; it alone tells nothing, the classes under it do."""

    def shows(self, number):
        """Tell whether the answer is the one of the number."""
        return False


class Longest(Answer):
    """All triples whose longest side a number is, in the order of tuples."""

    def __init__(self, triples):
        self.triples = list(triples)

    def shows(self, number):
        """Tell whether the triples are all that have the number as their longest side."""
        if not is_side(number):
            return False
        told = triples_by_longest(number)
        return len(told) > 0 and self.triples == told


class Barred(Answer):
    """A prime that goes into a number and keeps it from being a longest side."""

    def __init__(self, prime):
        self.prime = prime

    def shows(self, number):
        """Tell whether the prime bars the number from being a longest side."""
        return is_side(number) and self.prime in barring_primes(number)


class Leg(Answer):
    """All triples whose first or second number a number is, in the order of tuples."""

    def __init__(self, triples):
        self.triples = list(triples)

    def shows(self, number):
        """Tell whether the triples are all that have the number first or second."""
        if not is_side(number):
            return False
        told = triples_by_leg(number)
        return len(told) > 0 and self.triples == told


class Halved(Answer):
    """The number leaves 2 by 4, and so it is neither first nor second in a triple."""

    def shows(self, number):
        """Tell whether the number leaves 2 by 4."""
        return is_side(number) and number % 4 == 2
