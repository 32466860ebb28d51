"""Cuts beside the places that they meet oddly: one reduced table, from which cuts, even lots and both are told."""

from botheven.lots import cut_of, odd_places, sum_of
from botheven.masks import lot_behind, mask_of, reduced, rest_behind


def _marked(web, odd, lot):
    """Return one integer of the places, in its high figures, and of the mask of the lot, in its low ones."""
    high = 0
    for place in odd:
        high += 1 << place
    return (high << len(web[1])) + mask_of(web, lot)


def _cut_table(web):
    """Return the reduced base of all cuts, each marked with the places that have an odd number of its ties."""
    rows = []
    for place in range(1, web[0]):
        cut = cut_of(web, (place,))
        rows.append(_marked(web, odd_places(web, cut), cut))
    return reduced(rows)


def even_cuts(web):
    """Return the base of the lots that are even and cuts in which the least tie of each stands in no other one."""
    # No place stays in the high figures just where each place has an even number of the cut's ties.
    return tuple([lot_behind(web, row) for row in _cut_table(web) if row >> len(web[1]) == 0])


def cut_and_even(web, lot):
    """Return a pair of a cut and of an even lot whose sum is the lot, None if there is none."""
    rest = rest_behind(_cut_table(web), _marked(web, odd_places(web, lot), ()))
    if rest >> len(web[1]):
        return None
    # What was taken off has the same odd places as the lot, so lot and cut together are even.
    cut = lot_behind(web, rest)
    return cut, sum_of((cut, lot))
