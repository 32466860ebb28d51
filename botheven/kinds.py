"""What kind of value something is. True and False are no integers here."""

_LETTERS = "abcdefghijklmnopqrstuvwxyz"
_MOST_LETTERS = 8


def whole(value):
    """Tell whether value is an integer."""
    return isinstance(value, int) and not isinstance(value, bool)


def whole_within(value, low, high):
    """Tell whether value is an integer from low to high."""
    return whole(value) and low <= value <= high


def row_of(value, many):
    """Tell whether value is a tuple of so many items."""
    return isinstance(value, tuple) and len(value) == many


def name_like(value):
    """Tell whether value is a string of 1 to 8 small letters."""
    if not isinstance(value, str) or not 1 <= len(value) <= _MOST_LETTERS:
        return False
    return all([sign in _LETTERS for sign in value])
