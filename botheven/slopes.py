"""Slopes: integers on the ties whose sum at each place and on each round is 0."""

from botheven.doubling import doubled
from botheven.fellows import fellow_lots
from botheven.kinds import row_of, whole
from botheven.sums import sum_on
from botheven.webs import ties_at


def slope_error(web, value):
    """Return None for a slope of the web, else what is wrong with value first."""
    if not row_of(value, len(web[1])) or not all([whole(item) for item in value]):
        return "form"
    for place in range(web[0]):
        if sum_on(value, ties_at(web, place)) != 0:
            return ("star", place)
    lot = _bent_round(web, value)
    return None if lot is None else ("round", lot)


def _bent_round(web, value):
    """Return a round on which the sum is not 0, None if there is none."""
    # Rounds are sums of halves of doubled fellows; so if all of these have the sum 0, all rounds have it.
    for lot in fellow_lots(web):
        if sum_on(value, lot) != 0:
            return [deed[1] for deed in doubled(web, lot) if sum_on(value, deed[1]) != 0][0]
    return None


def slope_base(web):
    """Return the base of the slopes in which each one has 1 at its least tie, where all others have 0."""
    lots = list(fellow_lots(web)) + [ties_at(web, place) for place in range(web[0])]
    many = len(web[1])
    # The base has no integers but -1, 0 and 1, and modulo 3 no more slopes come in: there it can be found whole.
    leading = _reduced_late([[1 if tie in lot else 0 for tie in range(many)] for lot in lots], many)
    return tuple([_slope(leading, tie, many) for tie in range(many) if tie not in leading])


def _reduced_late(rows, many):
    """Return a dict: the last column of each row of a reduced table modulo 3, with the row, which has 1 there."""
    leading = {}
    for column in reversed(range(many)):
        chosen = [row for row in rows if row[column] != 0]
        if chosen:
            # Modulo 3 each number but 0 is its own inverse.
            lead = [item * chosen[0][column] % 3 for item in chosen[0]]
            rows = [_cleared(row, lead, column) for row in rows]
            leading = {key: _cleared(leading[key], lead, column) for key in leading}
            leading[column] = lead
    return leading


def _cleared(row, lead, column):
    """Return the row less the multiple of lead that makes 0 of the column, modulo 3."""
    if row[column] == 0:
        return row
    return [(item - row[column] * off) % 3 for item, off in zip(row, lead)]


def _slope(leading, least, many):
    """Return the slope with 1 at its least tie and 0 at all other ties that lead no row."""
    slope = [0] * many
    slope[least] = 1
    for column in leading:
        # 2 stands for -1 here, so what comes is -1, 0 or 1 again.
        slope[column] = (1 - leading[column][least]) % 3 - 1
    return tuple(slope)
