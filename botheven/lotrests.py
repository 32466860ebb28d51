"""The rests of lots, numbered: lots are of one rest if their sum is the sum of a cut and of an even lot.

A number tells, lot by lot of a base of the both-even lots, which of these have an odd number of common ties.
"""

from botheven.bounds import MAX_GAP
from botheven.errors import TooMany
from botheven.evens import lot_base
from botheven.lots import common_odd
from botheven.masks import lot_behind, mask_of, mask_of_figures, reduced
from botheven.paths import all_ties


def late_base(web):
    """Return the base of the both-even lots in which the greatest tie of each stands in no other one, ascending."""
    # Turned about, the greatest ties lead the masks.
    last = len(web[1]) - 1
    turned = [tuple([last - tie for tie in lot[::-1]]) for lot in lot_base(web)]
    found = [lot_behind(web, mask) for mask in reduced([mask_of(web, lot) for lot in turned])]
    return tuple([tuple([last - tie for tie in lot[::-1]]) for lot in found[::-1]])


def narrow_base(web):
    """Return the late base of a web whose rests are few enough to be looked through."""
    base = late_base(web)
    if len(base) > MAX_GAP:
        raise TooMany(MAX_GAP)
    return base


def rest_number(base, lot):
    """Return the number of the rest of a lot."""
    return mask_of_figures([int(common_odd(held, lot)) for held in base])


def first_of_rest(base, number):
    """Return the first lot, in order, of the rest with this number, base being a late one."""
    last = len(base) - 1
    # Any other tie can be exchanged for greater ones, so the first lot has greatest ties alone.
    return tuple([lot[-1] for k, lot in enumerate(base) if number >> (last - k) & 1])


def tie_rests(web, base):
    """Return for each tie the number of the rest of the lot of this tie alone."""
    return tuple([rest_number(base, (tie,)) for tie in all_ties(web)])
