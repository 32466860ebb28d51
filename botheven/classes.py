"""Classes of standings of thick webs: all those that deeds lead to one another."""

from botheven.errors import Unfit
from botheven.evens import lot_base, lot_many
from botheven.kinds import whole_within
from botheven.lotrests import first_of_rest, late_base, rest_number
from botheven.sums import odd_ties, sum_on, with_ones
from botheven.thick import need_thick


def class_count(web):
    """Return how many classes there are."""
    need_thick(web)
    return 1 << lot_many(web)


def parities(web, standing):
    """Return the sums of the standing on the lots of the base, modulo 2."""
    need_thick(web)
    return tuple([sum_on(standing, lot) & 1 for lot in lot_base(web)])


def standard(web, standing):
    """Return the least standing of 0 and 1 that is joined with the standing."""
    need_thick(web)
    base = late_base(web)
    return with_ones(web, first_of_rest(base, rest_number(base, odd_ties(standing))))


def class_at(web, number):
    """Return the least standing of 0 and 1 of the class with this number."""
    need_thick(web)
    base = late_base(web)
    if not whole_within(number, 0, (1 << len(base)) - 1):
        raise Unfit()
    # The first lots of rests lie in the order of the numbers of these.
    return with_ones(web, first_of_rest(base, number))


def class_number(web, standing):
    """Return the number of the class of the standing."""
    need_thick(web)
    return rest_number(late_base(web), odd_ties(standing))
