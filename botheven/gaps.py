"""Gaps: how many ties a lot is off what can be done, and standings mended at as few ties as can be."""

from botheven.bounds import MAX_NUMBER
from botheven.fewest import fewest_sums
from botheven.lotrests import first_of_rest, narrow_base, rest_number, tie_rests
from botheven.standings import difference
from botheven.sums import odd_ties
from botheven.thick import need_thick


def _fewest(web, base):
    """Return a dict: the number of each rest, with as few ties as can be that make a lot of it."""
    return fewest_sums(list(enumerate(tie_rests(web, base))))


def fewest_left(web, lot):
    """Return a lot of the rest of the lot with as few ties as can be."""
    base = narrow_base(web)
    return tuple(sorted(_fewest(web, base)[rest_number(base, lot)]))


def widest(web):
    """Return the greatest gap, and the first lot that has it."""
    base = narrow_base(web)
    found = _fewest(web, base)
    most = max([len(ties) for ties in found.values()])
    # The first lots of rests lie in the order of the numbers of these.
    return most, first_of_rest(base, min([number for number in found if len(found[number]) == most]))


def mended(web, standing, other):
    """Return a standing that is joined with other, unlike standing at as few ties as can be."""
    need_thick(web)
    unlike = fewest_left(web, odd_ties(difference(standing, other)))
    return tuple([_next(number) if tie in unlike else number for tie, number in enumerate(standing)])


def _next(number):
    """Return a number that is 1 off this one, and no greater than numbers may be."""
    return number - 1 if number == MAX_NUMBER else number + 1
