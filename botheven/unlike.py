"""What tells that no deeds add given numbers, be it just or modulo k; k is 0 where it is just."""

from botheven.errors import Sloped
from botheven.evens import both_error
from botheven.kinds import row_of
from botheven.slopes import slope_base, slope_error
from botheven.sums import odd_on, sum_with


def _divides(k, number):
    """Tell whether the number is a multiple of k."""
    return number == 0 if k == 0 else number % k == 0


def need_level(web, numbers, k):
    """Raise Sloped with a slope whose sum with the numbers is no multiple of k, if there is one."""
    # If there is one, one of the base is.
    for slope in slope_base(web):
        if not _divides(k, sum_with(numbers, slope)):
            raise Sloped(slope)


def tells_apart(web, numbers, k, value):
    """Tell whether value is a pair of a word and of a slope or a lot by which no deeds add the numbers."""
    if not row_of(value, 2):
        return False
    word, what = value
    if word == "slope":
        return slope_error(web, what) is None and not _divides(k, sum_with(numbers, what))
    # Odd multiples of an odd k can be added, so lots tell something for an even one alone.
    return word == "lot" and k & 1 == 0 and both_error(web, what) is None and odd_on(numbers, what)
