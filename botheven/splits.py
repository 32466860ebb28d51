"""Lots as sums of a cut and of an even lot."""

from botheven.errors import Held
from botheven.evens import lot_base
from botheven.lots import common_odd
from botheven.parting import cut_and_even


def split(web, lot):
    """Return a pair of a cut and of an even lot whose sum is the lot."""
    pair = cut_and_even(web, lot)
    if pair is None:
        # If all lots of the base met the lot evenly, it would be such a sum; so one does not.
        raise Held([held for held in lot_base(web) if common_odd(held, lot)][0])
    return pair
