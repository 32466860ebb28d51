"""Spanning trees of a web, counted and told."""

from botheven.bounds import MAX_TREES
from botheven.errors import TooMany
from botheven.lots import lot_error
from botheven.paths import made_one, places_met
from botheven.webs import matrix_of


def core_of(web):
    """Return the web's matrix without the row and the column of the place 0."""
    return tuple([row[1:] for row in matrix_of(web)[1:]])


def tree_count(web):
    """Return how many trees the web has."""
    rows = [list(row) for row in core_of(web)]
    count = 1
    while rows:
        # The core of a joined web has only determinants above 0 at its head, so this number is never 0.
        lead = rows[0]
        rows = [_reduced_row(row, lead, count) for row in rows[1:]]
        count = lead[0]
    return count


def _reduced_row(row, lead, ahead):
    """Return the row without its first item: determinants of two rows over the number ahead, which divides them."""
    return [(item * lead[0] - off * row[0]) // ahead for item, off in zip(row[1:], lead[1:])]


def trees(web):
    """Return the tuple of all trees, in order."""
    if tree_count(web) > MAX_TREES:
        raise TooMany(MAX_TREES)
    # Ties that are taken so far, and the name of each place's part; each of these leads to a tree of its own.
    begun = [((), tuple(range(web[0])))]
    for tie in range(len(web[1])):
        begun = [longer for taken, part in begun for longer in _gone_on(web, taken, part, tie)]
    return tuple([taken for taken, _ in begun])


def _gone_on(web, taken, part, tie):
    """Return the ways to go on at the tie, in order: without it, with it."""
    one, other = [part[end] for end in web[1][tie]]
    if one == other:
        return [(taken, part)]
    found = [(taken + (tie,), made_one(part, one, other))]
    return [(taken, part)] + found if _joins(web, part, tie + 1) else found


def _joins(web, part, least):
    """Tell whether ties from least on make one of all parts."""
    for one, other in web[1][least:]:
        if part[one] != part[other]:
            part = made_one(part, part[one], part[other])
    return all([name == part[0] for name in part])


def is_tree(web, value):
    """Tell whether value is a tree of the web."""
    if lot_error(web, value) is not None or len(value) != web[0] - 1:
        return False
    return len(places_met(web, value, 0)) == web[0]
