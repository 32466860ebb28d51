"""Lots of ties: their sums, cuts and even lots."""

from botheven.errors import Unfit
from botheven.kinds import whole_within
from botheven.paths import all_ties, ways_from


def lot_error(web, value):
    """Return None for a lot of the web, else what is wrong with value first."""
    if not isinstance(value, tuple):
        return "form"
    least = 0
    for place, item in enumerate(value):
        if not whole_within(item, least, len(web[1]) - 1):
            return ("item", place)
        least = item + 1
    return None


def sum_of(lots):
    """Return the lot of the ties that stand in an odd number of the lots."""
    odd = {}
    for lot in lots:
        for tie in lot:
            odd[tie] = not odd.get(tie, False)
    return tuple([tie for tie in sorted(odd) if odd[tie]])


def common_odd(one, other):
    """Tell whether two lots have an odd number of common ties."""
    return len([tie for tie in one if tie in other]) & 1 == 1


def cut_of(web, places):
    """Return the lot of the ties with just one end among the places."""
    return tuple([tie for tie, (one, other) in enumerate(web[1]) if (one in places) != (other in places)])


def odd_places(web, lot):
    """Return the ascending tuple of the places with an odd number of the lot's ties."""
    odd = [False] * web[0]
    for tie in lot:
        for place in web[1][tie]:
            odd[place] = not odd[place]
    return tuple([place for place in range(web[0]) if odd[place]])


def is_even(web, lot):
    """Tell whether each place has an even number of the lot's ties."""
    return odd_places(web, lot) == ()


def _far_side(web, lot):
    """Return the only places without 0 whose cut the lot could be."""
    found = ways_from(web, all_ties(web), 0)
    # Each tie of a cut changes the side, so a way from 0 with an odd number of them ends beyond it.
    return tuple([place for place in range(web[0]) if common_odd(found[place], lot)])


def is_cut(web, lot):
    """Tell whether the lot is the cut of some places."""
    return cut_of(web, _far_side(web, lot)) == lot


def places_of_cut(web, lot):
    """Return the places without 0 whose cut the lot is."""
    places = _far_side(web, lot)
    if cut_of(web, places) != lot:
        raise Unfit()
    return places
