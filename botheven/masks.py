"""Lots as integers, and their sums modulo 2.

The figure of the tie 0 is the highest one, so masks lie in the order in which the rows of their lots lie.
"""


def mask_of(web, lot):
    """Return the mask of a lot."""
    last = len(web[1]) - 1
    mask = 0
    for tie in lot:
        mask += 1 << (last - tie)
    return mask


def mask_of_figures(figures):
    """Return the integer with these figures, the highest one first."""
    mask = 0
    for figure in figures:
        mask = mask * 2 + figure
    return mask


def lot_behind(web, mask):
    """Return the lot that has this mask."""
    last = len(web[1]) - 1
    return tuple([tie for tie in range(last + 1) if mask >> (last - tie) & 1])


def rest_behind(base, mask):
    """Return what is left of a mask when the leading figures of a reduced base are taken off."""
    for row in base:
        if mask >> (row.bit_length() - 1) & 1:
            mask = mask ^ row
    return mask


def reduced(masks):
    """Return the base of the sums of masks in which no leading figure stands in another row, descending."""
    base = []
    for mask in masks:
        rest = rest_behind(base, mask)
        if rest:
            leading = rest.bit_length() - 1
            base = [row ^ rest if row >> leading & 1 else row for row in base]
            base.append(rest)
    return tuple(sorted(base, reverse=True))
