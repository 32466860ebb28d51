"""Webs: places, and ties between them."""

from botheven.bounds import MAX_PLACES, MAX_TIES
from botheven.kinds import row_of, whole_within
from botheven.paths import all_ties, places_met


def web_error(value):
    """Return None for a web, else what is wrong with value first."""
    if not row_of(value, 2) or not whole_within(value[0], 1, MAX_PLACES):
        return "form"
    many, ties = value
    if not isinstance(ties, tuple) or len(ties) > MAX_TIES:
        return "form"
    for k, item in enumerate(ties):
        if not _is_tie(many, item):
            return ("tie", k)
    if len(places_met(value, all_ties(value), 0)) < many:
        return "apart"
    return None


def _is_tie(many, item):
    """Tell whether item is a pair of places, the lesser one first."""
    if not row_of(item, 2):
        return False
    one, other = item
    return whole_within(one, 0, many - 1) and whole_within(other, 0, many - 1) and one < other


def ties_at(web, place):
    """Return the ascending tuple of the ties at a place."""
    return tuple([tie for tie, ends in enumerate(web[1]) if place in ends])


def renamed(ties, names):
    """Return the ties with the names of their ends, the lesser one first."""
    return tuple([tuple(sorted((names[one], names[other]))) for one, other in ties])


def matrix_of(web):
    """Return the web's matrix: ties at each place, less ties between each two."""
    many, ties = web
    rows = [[0] * many for place in range(many)]
    for one, other in ties:
        rows[one][one] += 1
        rows[other][other] += 1
        rows[one][other] -= 1
        rows[other][one] -= 1
    return tuple([tuple(row) for row in rows])
