"""Both-even lots: those that meet each place and each round evenly."""

from botheven.bounds import MAX_LOTS
from botheven.errors import TooMany, Unfit
from botheven.kinds import whole_within
from botheven.lots import common_odd, lot_error, odd_places, sum_of
from botheven.parting import even_cuts
from botheven.rounds import tree_rounds


def both_error(web, value):
    """Return None for a both-even lot of the web, else what is wrong with value first."""
    error = lot_error(web, value)
    if error is not None:
        return error
    odd = odd_places(web, value)
    if odd:
        return ("place", odd[0])
    # Each round is a sum of these, so a lot that meets them evenly meets all rounds evenly.
    for lot in tree_rounds(web):
        if common_odd(lot, value):
            return ("round", lot)
    return None


def lot_base(web):
    """Return the base of the both-even lots in which the least tie of each stands in no other one."""
    return even_cuts(web)


def lot_many(web):
    """Return how many lots the base has."""
    return len(lot_base(web))


def _lot_from(base, number):
    """Return the sum of the base's lots that the figures of number tell, the first lot for the highest figure."""
    last = len(base) - 1
    return sum_of(tuple([lot for k, lot in enumerate(base) if number >> (last - k) & 1]))


def all_from(base):
    """Return the tuple of all sums of the base's lots, in order."""
    if 1 << len(base) > MAX_LOTS:
        raise TooMany(MAX_LOTS)
    # The leading ties of the base stand each in one lot of it, so rows lie in the order of numbers.
    return tuple([_lot_from(base, number) for number in range(1 << len(base))])


def all_lots(web):
    """Return the tuple of all both-even lots, in order."""
    return all_from(lot_base(web))


def lot_at(web, number):
    """Return the both-even lot with this number."""
    base = lot_base(web)
    if not whole_within(number, 0, (1 << len(base)) - 1):
        raise Unfit()
    return _lot_from(base, number)


def lot_number(web, lot):
    """Return the number of a both-even lot."""
    if both_error(web, lot) is not None:
        raise Unfit()
    number = 0
    for one in lot_base(web):
        number = number * 2 + (1 if one[0] in lot else 0)
    return number
