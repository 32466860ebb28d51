"""Standings of thick webs that deeds lead to one another."""

from botheven.deeds import lifted
from botheven.errors import Unfit
from botheven.evens import both_error
from botheven.leading import leading
from botheven.standings import difference
from botheven.sums import odd_on
from botheven.thick import need_thick


def joined_by(web, standing, other):
    """Return deeds that lead standing to other."""
    need_thick(web)
    # A thick web has no slope but noughts, so only lots can part the standings.
    return leading(web, difference(standing, other))


def is_parting(web, standing, other, value):
    """Tell whether value is a both-even lot on which the sums of both standings are unlike modulo 2."""
    need_thick(web)
    return both_error(web, value) is None and odd_on(difference(standing, other), value)


def joined_above(web, standing, other):
    """Return deeds that lead standing to other and never go below 0."""
    need_thick(web)
    if any([number < 0 for number in standing + other]):
        raise Unfit()
    return lifted(web, standing, joined_by(web, standing, other))
