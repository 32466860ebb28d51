"""Standings: a number on each tie of a web."""

from botheven.bounds import MAX_NUMBER
from botheven.kinds import row_of, whole_within


def standing_error(web, value):
    """Return None for a standing of the web, else what is wrong with value first."""
    if not row_of(value, len(web[1])):
        return "form"
    for place, item in enumerate(value):
        if not whole_within(item, -MAX_NUMBER, MAX_NUMBER):
            return ("item", place)
    return None


def difference(one, other):
    """Return what has to be added to one, tie by tie, to come to other."""
    return tuple([there - here for here, there in zip(one, other)])
