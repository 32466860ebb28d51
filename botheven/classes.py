"""Classes of standings of thick webs: all those that deeds lead to one another."""

from botheven.errors import Unfit
from botheven.evens import lot_base, lot_many
from botheven.kinds import whole_within
from botheven.masks import lot_behind, mask_of, reduced
from botheven.sums import sum_on
from botheven.thick import need_thick


def class_count(web):
    """Return how many classes there are."""
    need_thick(web)
    return 1 << lot_many(web)


def parities(web, standing):
    """Return the sums of the standing on the lots of the base, modulo 2."""
    need_thick(web)
    return tuple([sum_on(standing, lot) & 1 for lot in lot_base(web)])


def _late_base(web):
    """Return the base of the both-even lots in which the greatest tie of each stands in no other one, ascending."""
    # Turned about, the greatest ties lead the masks.
    last = len(web[1]) - 1
    turned = [tuple([last - tie for tie in lot[::-1]]) for lot in lot_base(web)]
    found = [lot_behind(web, mask) for mask in reduced([mask_of(web, lot) for lot in turned])]
    return tuple([tuple([last - tie for tie in lot[::-1]]) for lot in found[::-1]])


def _with_ones(web, ties):
    """Return the standing with 1 on these ties and 0 on all others."""
    return tuple([int(tie in ties) for tie in range(len(web[1]))])


def standard(web, standing):
    """Return the least standing of 0 and 1 that is joined with the standing."""
    need_thick(web)
    # Any other tie can be made 0 by greater ones, so the least one has 1 at greatest ties alone.
    return _with_ones(web, [lot[-1] for lot in _late_base(web) if sum_on(standing, lot) & 1])


def class_at(web, number):
    """Return the least standing of 0 and 1 of the class with this number."""
    need_thick(web)
    base = _late_base(web)
    if not whole_within(number, 0, (1 << len(base)) - 1):
        raise Unfit()
    last = len(base) - 1
    return _with_ones(web, [lot[-1] for k, lot in enumerate(base) if number >> (last - k) & 1])


def class_number(web, standing):
    """Return the number of the class of the standing."""
    need_thick(web)
    number = 0
    for lot in _late_base(web):
        number = number * 2 + (sum_on(standing, lot) & 1)
    return number
