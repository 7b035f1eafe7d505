"""The three steps from triple to triple, the step back, and rows of steps."""

from squaretree.errors import BadRow, BadStep
from squaretree.pairs import pair_of
from squaretree.whole import are_whole, formed, is_whole

ROOT = (2, 1)
LONGEST_ROW = 200
MOST_OF_STEP_1 = 1000


def stepped(triple, step):
    """Give the triple to which the triple is led by the step."""
    m, n = pair_of(triple)
    if not _is_step(step):
        raise BadStep("a step is 0, 1 or 2")
    m, n = _led(m, n, step, 1)
    return formed(m, n)


def back(triple):
    """Give the triple that leads to this one, and by which step; None where none does."""
    m, n = pair_of(triple)
    if (m, n) == ROOT:
        return None
    step = _last_step(m, n)
    m, n = _led_back(m, n, step, 1)
    return (formed(m, n), step)


def by_row(row):
    """Give the triple to which the row leads from (3, 4, 5)."""
    if not _is_row(row):
        raise BadRow("a row is a list of at most 200 pairs of a step and how often it is done")
    m, n = ROOT
    for step, times in row:
        m, n = _led(m, n, step, times)
    return formed(m, n)


def row_of(triple):
    """Give the row that leads from (3, 4, 5) to the triple."""
    m, n = pair_of(triple)
    backwards = []
    while (m, n) != ROOT:
        step = _last_step(m, n)
        times = _last_times(m, n, step)
        m, n = _led_back(m, n, step, times)
        backwards.append((step, times))
    return backwards[::-1]


def _is_step(value):
    return is_whole(value) and 0 <= value <= 2


def _is_row(value):
    if not isinstance(value, list) or len(value) > LONGEST_ROW:
        return False
    if not all([_is_part(part) for part in value]):
        return False
    return all([value[at - 1][0] != value[at][0] for at in range(1, len(value))])


def _is_part(value):
    """Tell whether the value is a step and how often it may be done."""
    if not are_whole(value, 2):
        return False
    step, times = value
    return _is_step(step) and times > 0 and (step != 1 or times <= MOST_OF_STEP_1)


def _led(m, n, step, times):
    """Give the pair to which (m, n) is led by the step, done so often."""
    if step == 0:
        # The step keeps the gap between m and n and adds it to both.
        gap = (m - n) * times
        return (m + gap, n + gap)
    if step == 2:
        return (m + 2 * n * times, n)
    low, middle, high = _pell(times)
    return (high * m + middle * n, middle * m + low * n)


def _led_back(m, n, step, times):
    """Give the pair that is led to (m, n) by the step, done so often."""
    if step == 0:
        gap = (m - n) * times
        return (m - gap, n - gap)
    if step == 2:
        return (m - 2 * n * times, n)
    low, middle, high = _pell(times)
    sign = 1 if times % 2 == 0 else -1
    return (sign * (low * m - middle * n), sign * (high * n - middle * m))


def _pell(times):
    """Give the Pell numbers before, at and after the place; the places double, bit by bit.

    Step 1 done so often makes high m + middle n and middle m + low n of m and n.
    """
    middle, high = 0, 1
    for at in range(times.bit_length() - 1, -1, -1):
        middle, high = 2 * middle * (high - middle), middle * middle + high * high
        if (times >> at) % 2 == 1:
            middle, high = high, 2 * high + middle
    return (high - 2 * middle, middle, high)


def _last_step(m, n):
    """Give the step by which a pair leads to (m, n), which is not (2, 1)."""
    if m < 2 * n:
        return 0
    if m < 3 * n:
        return 1
    return 2


def _last_times(m, n, step):
    """Give how often the step was done at the end of the way to (m, n)."""
    if step == 0:
        return (n - 1) // (m - n)
    if step == 2:
        return (m - n) // (2 * n)
    return _last_times_of_1(m, n)


def _last_times_of_1(m, n):
    """Give how often step 1 was done last, in leaps: one by one is slow for great numbers."""
    times = 0
    leap = 1
    while leap > 0:
        before_m, before_n = _led_back(m, n, 1, leap)
        if 0 < before_n < before_m:
            m, n = before_m, before_n
            times += leap
            leap *= 2
        else:
            leap //= 2
    return times
