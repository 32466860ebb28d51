"""Side lots: lots that are cuts of places and of faces of one table, and so of its turn walks, too."""

from botheven.evens import all_from
from botheven.lots import cut_of, is_cut, lot_error, places_of_cut
from botheven.masks import lot_behind, mask_of, reduced
from botheven.steps import face_rows, row_web, walk_rows


def _face_web(table):
    """Return a pair like a web, with the faces as its places."""
    return row_web(table[0], face_rows(table))


def _walk_web(table):
    """Return a pair like a web, with the turn walks as its places."""
    return row_web(table[0], walk_rows(table))


def face_lot(table, some):
    """Return the cut of these faces."""
    return cut_of(_face_web(table), some)


def walk_lot(table, some):
    """Return the cut of these turn walks."""
    return cut_of(_walk_web(table), some)


def is_side(table, value):
    """Tell whether value is a side lot."""
    web = table[0]
    return lot_error(web, value) is None and is_cut(web, value) and is_cut(_face_web(table), value)


def _cut_masks(web):
    """Return the list of the masks of the cuts of each place but 0, of which all cuts are sums."""
    return [mask_of(web, cut_of(web, (place,))) for place in range(1, web[0])]


def _side_base(table):
    """Return the base of the side lots in which the least tie of each stands in no other one."""
    web, high = table[0], len(table[0][1])
    rows = [(mask << high) + mask for mask in _cut_masks(web)]
    rows.extend([mask << high for mask in _cut_masks(_face_web(table))])
    # Where cuts of places and of faces take each other off the high figures, they are equal; the low ones tell them.
    return tuple([lot_behind(web, row) for row in reduced(rows) if row >> high == 0])


def side_lots(table):
    """Return the tuple of all side lots, in order."""
    return all_from(_side_base(table))


def side_many(table):
    """Return how many lots the base of the side lots has."""
    return len(_side_base(table))


def side_colours(table, lot):
    """Return the places, the faces and the walks, without the numbers 0, whose cut the side lot is."""
    # What is no side lot is no cut of places, or none of faces, and raises Unfit as such.
    return tuple([places_of_cut(web, lot) for web in (table[0], _face_web(table), _walk_web(table))])
