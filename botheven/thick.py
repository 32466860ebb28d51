"""Thick webs, in which no cut has one tie or two, and ties that are doubled by rounds."""

from botheven.doubling import doubled
from botheven.errors import Thin
from botheven.ways import narrow_cut


def thin_cut(web):
    """Return None for a thick web, else a cut of one or two ties."""
    # Each cut but () parts the place 0 from another one.
    for place in range(1, web[0]):
        lot = narrow_cut(web, 0, place)
        if lot is not None:
            return lot
    return None


def need_thick(web):
    """Raise Thin with a cut of one or two ties if the web is not thick."""
    lot = thin_cut(web)
    if lot is not None:
        raise Thin(lot)


def twice(web, tie):
    """Return deeds of rounds that add 2 to the tie and 0 to each other one."""
    one, other = web[1][tie]
    lot = narrow_cut(web, one, other)
    if lot is not None:
        raise Thin(lot)
    # No other tie makes a cut of two with it, so it has no fellow but itself.
    return doubled(web, (tie,))
