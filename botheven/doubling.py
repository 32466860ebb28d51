"""Ties that lie on just the same rounds, doubled by rounds alone."""

from botheven.lots import sum_of
from botheven.paths import all_ties
from botheven.rounds import parted_even
from botheven.ways import ways


def doubled(web, lot):
    """Return deeds of rounds that add 2 to each tie of a lot of fellows and 0 to each other tie."""
    first, others = lot[0], lot[1:]
    # Each further fellow is laid once more, so that two ways between the ends of the first one can go along it.
    wide = (web[0], web[1] + tuple([web[1][tie] for tie in others]))
    names = all_ties(web) + others
    one, other = web[1][first]
    # A way between these ends that has the tie is the tie alone, so those without it go well with it.
    found = [tuple(sorted([names[tie] for tie in way])) for way in ways(wide, one, other) if first not in way]
    deeds = [("round", sum_of(((first,), way)), 1) for way in found[:2]]
    # Both rounds have all fellows; whatever else they have, each alone, is taken off again.
    deeds.extend([("round", part, -1) for part in parted_even(web, sum_of((found[0], found[1])))])
    return tuple(deeds)
