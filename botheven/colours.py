"""Both-even lots told by two colours of the places."""

from botheven.errors import Unfit
from botheven.evens import both_error
from botheven.lots import cut_of, is_even, places_of_cut


def lot_of(web, colours):
    """Return the both-even lot of all ties whose ends have unlike colours."""
    lot = cut_of(web, tuple([place for place in range(web[0]) if colours[place] == 1]))
    if not is_even(web, lot):
        raise Unfit()
    return lot


def colours_of(web, lot):
    """Return the colours, 0 at the place 0, of a both-even lot."""
    if both_error(web, lot) is not None:
        raise Unfit()
    far = places_of_cut(web, lot)
    return tuple([int(place in far) for place in range(web[0])])
