"""Standings of any web modulo k: multiples of k at a tie make no difference."""

from botheven.leading import leading
from botheven.marks import class_many
from botheven.slopes import slope_base
from botheven.standings import difference
from botheven.sums import sum_with
from botheven.unlike import need_level, tells_apart


def classes_modulo(web, k):
    """Return how many classes modulo k there are."""
    slopes, lots = class_many(web)
    many = 1
    for _ in range(slopes):
        many = many * k
    return many if k & 1 else many << lots


def joined_modulo(web, k, standing, other):
    """Return deeds that lead standing to numbers that are alike other modulo k."""
    numbers = difference(standing, other)
    need_level(web, numbers, k)
    return leading(web, _level(web, k, numbers))


def _level(web, k, numbers):
    """Return numbers that are alike these modulo k, with which all slopes have the sum 0."""
    level = list(numbers)
    if k & 1:
        # Even numbers have an even sum on each lot, and multiples of k as sums with slopes that are even, too.
        level = [number + k * (number & 1) for number in level]
    for slope in slope_base(web):
        # No other slope of the base has anything but 0 at its least tie, where it has 1.
        level[slope.index(1)] -= sum_with(level, slope)
    return tuple(level)


def parts_modulo(web, k, standing, other, value):
    """Tell whether value is a slope or a lot by which standing and other are not joined modulo k."""
    return tells_apart(web, difference(standing, other), k, value)
