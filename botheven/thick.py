"""Thick webs, in which no cut has one tie or two, and ties that are doubled by rounds."""

from botheven.errors import Thin
from botheven.lots import sum_of
from botheven.rounds import parted_even
from botheven.ways import narrow_cut, ways


def thin_cut(web):
    """Return None for a thick web, else a cut of one or two ties."""
    # Each cut but () parts the place 0 from another one.
    for place in range(1, web[0]):
        lot = narrow_cut(web, 0, place)
        if lot is not None:
            return lot
    return None


def need_thick(web):
    """Raise Thin with a cut of one or two ties if the web is not thick."""
    lot = thin_cut(web)
    if lot is not None:
        raise Thin(lot)


def twice(web, tie):
    """Return deeds of rounds that add 2 to the tie and 0 to each other one."""
    one, other = web[1][tie]
    lot = narrow_cut(web, one, other)
    if lot is not None:
        raise Thin(lot)
    # A way between the ends that has the tie is the tie alone, so the others go well with it.
    others = [tuple(sorted(way)) for way in ways(web, one, other) if tie not in way]
    first, second = others[0], others[1]
    deeds = [("round", sum_of(((tie,), way)), 1) for way in (first, second)]
    deeds.extend([("round", lot, -1) for lot in parted_even(web, sum_of((first, second)))])
    return tuple(deeds)
