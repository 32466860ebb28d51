"""Marks, which no deeds change; in any web, standings with the same marks are led to one another."""

from botheven.evens import lot_base
from botheven.leading import leading
from botheven.slopes import slope_base
from botheven.standings import difference
from botheven.sums import sum_on, sum_with
from botheven.unlike import need_level, tells_apart


def marks_of(web, one):
    """Return the sums of a standing with the slopes of the base, and those on the lots of the base modulo 2."""
    sums = tuple([sum_with(one, slope) for slope in slope_base(web)])
    return sums, tuple([sum_on(one, lot) & 1 for lot in lot_base(web)])


def class_many(web):
    """Return how many slopes the base has, and how many more lots."""
    slopes = len(slope_base(web))
    return slopes, len(lot_base(web)) - slopes


def led_by(web, one, other):
    """Return deeds that lead one standing to the other."""
    numbers = difference(one, other)
    need_level(web, numbers, 0)
    return leading(web, numbers)


def is_parted(web, one, other, value):
    """Tell whether value is a slope or a lot by which one is not led to other."""
    return tells_apart(web, difference(one, other), 0, value)
