"""Turn walks: they go along the ties of a flat drawing and turn one way and the other by turns."""

from botheven.lots import cut_of, places_of_cut
from botheven.steps import row_web, walk_rows


def turn_walks(drawing):
    """Return the ascending tuple of all turn walks."""
    return walk_rows(drawing)


def _walk_web(drawing):
    """Return a pair like a web, with the walks as its places."""
    return row_web(drawing[0], walk_rows(drawing))


def lot_of_walks(drawing, some):
    """Return the lot of the ties that these walks go along just once in all."""
    return cut_of(_walk_web(drawing), some)


def walks_of_lot(drawing, lot):
    """Return the numbers without 0 of the walks whose lot it is."""
    # Just the both-even lots are the lots of walks, so what is none is no cut here.
    return places_of_cut(_walk_web(drawing), lot)
