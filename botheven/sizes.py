"""How many ties the both-even lots have."""

from botheven.lotrests import narrow_base
from botheven.masks import lot_behind, mask_of


def _lots(web):
    """Return the list of all both-even lots."""
    masks = [0]
    for lot in narrow_base(web):
        masks = masks + [mask ^ mask_of(web, lot) for mask in masks]
    return [lot_behind(web, mask) for mask in masks]


def lots_by_size(web):
    """Return the pairs of a number of ties and of how many both-even lots have so many, ascending."""
    found = {}
    for lot in _lots(web):
        found[len(lot)] = found.get(len(lot), 0) + 1
    return tuple(sorted(found.items()))


def least_lot(web):
    """Return a both-even lot other than () with the fewest ties, None if there is none."""
    return min([lot for lot in _lots(web) if lot != ()], key=len, default=None)
