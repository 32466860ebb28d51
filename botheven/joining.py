"""Standings of thick webs that deeds lead to one another."""

from botheven.deeds import done, lifted, told_together
from botheven.errors import Apart, Held, Unfit
from botheven.evens import both_error
from botheven.lots import places_of_cut
from botheven.rounds import parted_even
from botheven.splits import split
from botheven.standings import difference
from botheven.thick import need_thick, twice


def joined_by(web, standing, other):
    """Return deeds that lead standing to other."""
    need_thick(web)
    deeds = _odd_deeds(web, difference(standing, other))
    # What is left is even on each tie, and a thick web can double each tie by itself.
    left = difference(done(web, standing, deeds), other)
    for tie, number in enumerate(left):
        if number != 0:
            deeds.extend([(word, lot, times * (number // 2)) for word, lot, times in twice(web, tie)])
    return told_together(web, deeds)


def _odd_deeds(web, numbers):
    """Return the list of stars and rounds that touch just the ties with odd numbers an odd number of times."""
    odd = tuple([tie for tie, number in enumerate(numbers) if number & 1])
    try:
        cut, even = split(web, odd)
    except Held as error:
        raise Apart(error.held) from None
    stars = [("star", place, 1) for place in places_of_cut(web, cut)]
    return stars + [("round", lot, 1) for lot in parted_even(web, even)]


def is_parting(web, standing, other, value):
    """Tell whether value is a both-even lot on which the sums of both standings are unlike modulo 2."""
    need_thick(web)
    if both_error(web, value) is not None:
        return False
    numbers = difference(standing, other)
    return sum([numbers[tie] for tie in value]) & 1 == 1


def joined_above(web, standing, other):
    """Return deeds that lead standing to other and never go below 0."""
    need_thick(web)
    if any([number < 0 for number in standing + other]):
        raise Unfit()
    return lifted(web, standing, joined_by(web, standing, other))
