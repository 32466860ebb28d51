"""Equations that are solved with integers."""


def whole_solution(columns, goals):
    """Return integers, one for each column, so that their multiples add up to the goals; there must be some."""
    many = len(goals)
    # Behind its items each column carries how it is made of those handed in; so do the goals, less what is taken off.
    left = [list(column) + [int(k == place) for k in range(len(columns))] for place, column in enumerate(columns)]
    rest = list(goals) + [0] * len(columns)
    for row in range(many):
        left, lead = _lone(left, row)
        if lead is not None:
            rest = less(rest, lead, rest[row] // lead[row])
    return tuple([-item for item in rest[many:]])


def _lone(columns, row):
    """Return the columns made anew with 0 in the row, and apart the only one that has not, None if all have it."""
    some = [column for column in columns if column[row] != 0]
    others = [column for column in columns if column[row] == 0]
    while len(some) > 1:
        sizes = [abs(column[row]) for column in some]
        lead = some.pop(sizes.index(min(sizes)))
        # What is left over is less than the least one, so this comes to an end.
        rests = [less(column, lead, column[row] // lead[row]) for column in some]
        others.extend([column for column in rests if column[row] == 0])
        some = [column for column in rests if column[row] != 0] + [lead]
    return others, some[0] if some else None


def less(column, lead, times):
    """Return the column, or the row, less so many times the lead."""
    return [item - times * off for item, off in zip(column, lead)]
