"""Orbits: what both-even lots, and classes of standings, become by the symmetries of a web."""

from botheven.evens import all_lots
from botheven.lotrests import first_of_rest, late_base, rest_number
from botheven.namings import symmetries, tie_moves
from botheven.sums import with_ones
from botheven.thick import need_thick


def _all_moves(web):
    """Return for each symmetry the ties that ties become."""
    return [tie_moves(web, names) for names in symmetries(web)]


def _orbits(moves, lots, stand_in):
    """Return the pairs of the first lot and of the size of each orbit, in the order of the lots.

    stand_in is a function that tells which of the lots stands for what one of them has become.
    """
    met, found = {}, []
    for lot in lots:
        if lot not in met:
            orbit = {stand_in(tuple(sorted([row[tie] for tie in lot]))): True for row in moves}
            for other in orbit:
                met[other] = True
            found.append((lot, len(orbit)))
    return found


def _itself(lot):
    """Return the lot, which stands for itself."""
    return lot


def lot_orbits(web):
    """Return a pair for each orbit of both-even lots: its first lot, and how many lots it has."""
    moves = _all_moves(web)
    return tuple(_orbits(moves, all_lots(web), _itself))


def class_orbits(web):
    """Return a pair for each orbit of classes: its least standing of 0 and 1, and how many classes it has."""
    need_thick(web)
    moves = _all_moves(web)
    base = late_base(web)

    def first_alike(lot):
        """Return the first lot of the lot's rest, which stands for all of them."""
        return first_of_rest(base, rest_number(base, lot))

    firsts = [first_of_rest(base, number) for number in range(1 << len(base))]
    return tuple([(with_ones(web, lot), size) for lot, size in _orbits(moves, firsts, first_alike)])
