"""Fellows, ties that lie on just the same rounds; bridges, which lie on none; standings made of rounds."""

from botheven.deeds import done, told_together
from botheven.doubling import doubled
from botheven.errors import Unfit
from botheven.rounds import parted_even, tree_rounds
from botheven.standings import difference
from botheven.sums import odd_ties


def _alike(web):
    """Return a dict: the tree rounds that some tie lies on, by their numbers, with all ties that lie on just these."""
    found = {}
    lots = tree_rounds(web)
    # Rounds are sums of tree rounds, so ties that lie on the same ones of these lie on the same rounds.
    for tie in range(len(web[1])):
        key = tuple([number for number, lot in enumerate(lots) if tie in lot])
        found.setdefault(key, []).append(tie)
    return found


def fellow_lots(web):
    """Return the tuple of all lots of fellows, in the order of their least ties."""
    return tuple([tuple(ties) for key, ties in _alike(web).items() if key != ()])


def bridges(web):
    """Return the lot of all ties that lie on no round."""
    return tuple(_alike(web).get((), []))


def missing(web, deeds, numbers):
    """Return what these deeds leave to be added, tie by tie, to come from noughts to the numbers."""
    return difference(done(web, (0,) * len(web[1]), deeds), numbers)


def doublings(web, numbers):
    """Return the list of deeds of rounds that add numbers which are even and alike on fellows, and 0 on bridges."""
    deeds = []
    for lot in fellow_lots(web):
        half = numbers[lot[0]] // 2
        if half != 0:
            deeds.extend([(word, part, times * half) for word, part, times in doubled(web, lot)])
    return deeds


def by_rounds(web, one):
    """Return deeds of rounds that lead noughts to the standing."""
    if not _level(web, one):
        raise Unfit()
    # Where a place has an odd sum, so that no rounds do, the odd ties are no even lot, and this raises Unfit, too.
    deeds = [("round", lot, 1) for lot in parted_even(web, odd_ties(one))]
    # Rounds go along fellows together, so what is left is alike on them still.
    deeds.extend(doublings(web, missing(web, deeds, one)))
    return told_together(web, deeds)


def _level(web, numbers):
    """Tell whether the numbers are 0 on bridges and alike on fellows."""
    if any([numbers[tie] != 0 for tie in bridges(web)]):
        return False
    return all([numbers[tie] == numbers[lot[0]] for lot in fellow_lots(web) for tie in lot])
