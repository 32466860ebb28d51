"""Deeds: stars and rounds that change the numbers on ties."""

from botheven.bounds import MAX_TIMES
from botheven.errors import Unfit
from botheven.kinds import row_of, whole_within
from botheven.lots import lot_error
from botheven.masks import lot_behind, mask_of
from botheven.rounds import is_round
from botheven.webs import ties_at


def deed_error(web, value):
    """Return None for a deed of the web, else what is wrong with value first."""
    if not row_of(value, 3):
        return "form"
    word, target, times = value
    if word == "star":
        if not whole_within(target, 0, web[0] - 1):
            return "place"
    elif word == "round":
        if lot_error(web, target) is not None or not is_round(web, target):
            return "round"
    else:
        return "form"
    if not whole_within(times, -MAX_TIMES, MAX_TIMES) or times == 0:
        return "times"
    return None


def _do(web, numbers, deed):
    """Do one deed on a list of numbers."""
    word, target, times = deed
    touched = ties_at(web, target) if word == "star" else target
    for tie in touched:
        numbers[tie] += times


def done(web, standing, deeds):
    """Return the numbers behind all deeds."""
    numbers = list(standing)
    for deed in deeds:
        _do(web, numbers, deed)
    return tuple(numbers)


def undone(deeds):
    """Return the deeds that take deeds back."""
    return tuple([(word, target, -times) for word, target, times in deeds[::-1]])


def told_together(web, deeds):
    """Return deeds that do the same, with each place and each round at most once."""
    stars, masks = {}, {}
    for word, target, times in deeds:
        if word == "star":
            stars[target] = stars.get(target, 0) + times
        else:
            mask = mask_of(web, target)
            masks[mask] = masks.get(mask, 0) + times
    together = [("star", place, stars[place]) for place in sorted(stars) if stars[place] != 0]
    # Masks lie in the order of lots.
    together.extend([("round", lot_behind(web, mask), masks[mask]) for mask in sorted(masks) if masks[mask] != 0])
    return tuple(together)


def _has_below(numbers):
    """Tell whether a number is below 0."""
    return any([number < 0 for number in numbers])


def never_below(web, standing, deeds):
    """Tell whether no number is below 0, at first and behind each deed."""
    numbers = list(standing)
    if _has_below(numbers):
        return False
    for deed in deeds:
        _do(web, numbers, deed)
        if _has_below(numbers):
            return False
    return True


def lifted(web, standing, deeds):
    """Return the same deeds, first all that add, then all that take."""
    if _has_below(standing) or _has_below(done(web, standing, deeds)):
        raise Unfit()
    adding = [deed for deed in deeds if deed[2] > 0]
    taking = [deed for deed in deeds if deed[2] < 0]
    return tuple(adding + taking)
