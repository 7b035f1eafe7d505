"""The refusals of the program."""


class TripleError(ValueError):
    """Something handed in is not what was asked for."""


class BadTriple(TripleError):
    """Not a triple."""


class BadPair(TripleError):
    """Not the pair of a triple."""


class BadStep(TripleError):
    """Not one of the steps 0, 1 and 2."""


class BadRow(TripleError):
    """Not a row."""


class BadNumber(TripleError):
    """Not a whole number within the limits."""
