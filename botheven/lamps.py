"""Lamps on the ties, which stars and rounds turn on and off."""

from botheven.bounds import MAX_LAMPS
from botheven.deeds import done
from botheven.errors import Apart, TooMany
from botheven.evens import lot_base
from botheven.fewest import fewest_sums
from botheven.lots import common_odd
from botheven.masks import lot_behind, mask_of
from botheven.rounds import rounds
from botheven.sums import odd_ties, with_ones
from botheven.webs import ties_at


def switched(web, lot, deeds):
    """Return the lot of the lamps that are on behind all deeds."""
    return odd_ties(done(web, with_ones(web, lot), deeds))


def _switches(web):
    """Return the pairs of a deed with the times 1 and of the mask of its ties."""
    found = [(("star", place, 1), mask_of(web, ties_at(web, place))) for place in range(web[0])]
    return found + [(("round", lot, 1), mask_of(web, lot)) for lot in rounds(web)]


def _fewest(web):
    """Return a dict: the mask of each lot that can be turned off, with the deeds of which it needs the fewest."""
    if len(web[1]) > MAX_LAMPS:
        raise TooMany(MAX_LAMPS)
    return fewest_sums(_switches(web))


def fewest_deeds(web, lot):
    """Return as few deeds as can be that turn off the lamps of the lot, each with the times 1."""
    found = _fewest(web)
    mask = mask_of(web, lot)
    if mask not in found:
        # If all lots of the base met it evenly, it would be a sum of stars and rounds; so one does not.
        raise Apart([held for held in lot_base(web) if common_odd(held, lot)][0])
    return found[mask]


def hardest(web):
    """Return the greatest number of deeds that a lot needs to be turned off, and the first lot that does."""
    found = _fewest(web)
    most = max([len(deeds) for deeds in found.values()])
    # Masks lie in the order of lots.
    return most, lot_behind(web, min([mask for mask in found if len(found[mask]) == most]))
