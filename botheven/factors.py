"""The factors of a web's core, and papers that show whether the number of its trees is odd."""

from botheven.evens import both_error, lot_base
from botheven.kinds import row_of, whole_within
from botheven.masks import mask_of_figures, reduced
from botheven.solving import less
from botheven.trees import core_of


def heap_factors(web):
    """Return the factors of the core that are not 1, in their order."""
    found = []
    rows = [list(row) for row in core_of(web)]
    while rows:
        factor, rows = _factor_off(rows)
        found.append(factor)
    return tuple([factor for factor in found if factor != 1])


def _factor_off(rows):
    """Return the first factor of the rows, and rows with all the further ones."""
    while True:
        # Whatever is left over here is less than the least item, so this comes to an end.
        place, column = _least_place(rows)
        lead = rows[place]
        others = [less(row, lead, row[column] // lead[column]) for row in rows[:place] + rows[place + 1:]]
        if any([row[column] != 0 for row in others]):
            rows = others + [lead]
            continue
        # The column is 0 but for the lead; so any row, less multiples of the lead's item, can be had in its place.
        uneven = [row for row in [lead] + others if any([item % lead[column] != 0 for item in row])]
        if not uneven:
            return abs(lead[column]), [row[:column] + row[column + 1:] for row in others]
        rests = [item % lead[column] for item in uneven[0]]
        rests[column] = lead[column]
        rows = others + [rests]


def _least_place(rows):
    """Return the row and the column of an item nearest to 0, but not 0."""
    sizes = [(abs(item), place, column) for place, row in enumerate(rows) for column, item in enumerate(row) if item]
    return min(sizes)[1:]


def evens_among(web):
    """Return how many factors are even."""
    return len([factor for factor in heap_factors(web) if factor & 1 == 0])


def odd_paper(web):
    """Return a paper that shows whether the number of trees is odd."""
    base = lot_base(web)
    if base:
        return ("even", base[0])
    return ("odd", _undoing(core_of(web)))


def _undoing(core):
    """Return the rows of 0 and 1 that undo the core modulo 2."""
    many = len(core)
    # Behind each row of the core stands what rows it is made of, itself alone at first.
    masks = [mask_of_figures([number & 1 for number in row] + [int(k == place) for k in range(many)])
             for place, row in enumerate(core)]
    return tuple([tuple([mask >> (many - 1 - k) & 1 for k in range(many)]) for mask in reduced(masks)])


def odd_paper_holds(web, value):
    """Tell whether value is a paper that shows whether the number of trees is odd."""
    if not row_of(value, 2):
        return False
    word, what = value
    if word == "odd":
        return _undoes(core_of(web), what)
    return word == "even" and both_error(web, what) is None and what != ()


def _undoes(core, value):
    """Tell whether value is rows of 0 and 1 that undo the core modulo 2."""
    many = len(core)
    if not row_of(value, many) or not all([row_of(row, many) for row in value]):
        return False
    if not all([whole_within(item, 0, 1) for row in value for item in row]):
        return False
    for place, row in enumerate(value):
        for column in range(many):
            # The core is the same if rows and columns change places.
            total = sum([item * off for item, off in zip(row, core[column])])
            if total & 1 != int(place == column):
                return False
    return True
