"""What kind of value something is. True and False are no integers here."""


def whole(value):
    """Tell whether value is an integer."""
    return isinstance(value, int) and not isinstance(value, bool)


def whole_within(value, low, high):
    """Tell whether value is an integer from low to high."""
    return whole(value) and low <= value <= high


def row_of(value, many):
    """Tell whether value is a tuple of so many items."""
    return isinstance(value, tuple) and len(value) == many
