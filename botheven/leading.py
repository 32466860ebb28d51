"""Deeds that add given numbers, tie by tie, to any standing of any web."""

from botheven.deeds import told_together
from botheven.errors import Apart, Held
from botheven.fellows import bridges, doublings, fellow_lots, missing
from botheven.lots import places_of_cut
from botheven.rounds import parted_even
from botheven.solving import whole_solution
from botheven.splits import split
from botheven.sums import odd_ties


def leading(web, numbers):
    """Return deeds that add the numbers, with which all slopes have the sum 0."""
    deeds = _odd_deeds(web, numbers)
    # What is left is even on each tie, and twice each lot of fellows is made of rounds.
    deeds.extend(_even_stars(web, missing(web, deeds, numbers)))
    deeds.extend(doublings(web, missing(web, deeds, numbers)))
    return told_together(web, deeds)


def _odd_deeds(web, numbers):
    """Return the list of stars and rounds that touch just the ties with odd numbers an odd number of times."""
    try:
        cut, even = split(web, odd_ties(numbers))
    except Held as error:
        raise Apart(error.held) from None
    stars = [("star", place, 1) for place in places_of_cut(web, cut)]
    return stars + [("round", lot, 1) for lot in parted_even(web, even)]


def _even_stars(web, numbers):
    """Return the list of stars that leave of even numbers what is 0 on bridges and alike on fellows."""
    lone = bridges(web)
    # The first tie of each lot of fellows may bear any number: the others have to be so far off it as told.
    pairs = [(lot[0], tie) for lot in fellow_lots(web) for tie in lot[1:]]
    goals = [numbers[tie] // 2 for tie in lone] + [(numbers[tie] - numbers[first]) // 2 for first, tie in pairs]
    columns = []
    for place in range(web[0]):
        met = [int(place in ends) for ends in web[1]]
        columns.append([met[tie] for tie in lone] + [met[tie] - met[first] for first, tie in pairs])
    times = whole_solution(columns, goals)
    return [("star", place, 2 * times[place]) for place in range(web[0]) if times[place] != 0]
