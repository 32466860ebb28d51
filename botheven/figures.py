"""Integers told in decimal."""

_FIGURES = "0123456789"
# No integer that may be told has more figures; what is longer is not even looked at.
_MOST_SIGNS = 32


def integer_of(text, most):
    """Return the integer at most so far off 0 whose decimal the text is, None if it is that of none."""
    if len(text) > _MOST_SIGNS or not all([sign in _FIGURES for sign in text.removeprefix("-")]):
        return None
    if text in ("", "-"):
        return None
    number = int(text)
    # Noughts ahead and a nought below 0 are not what the integer is written like.
    return number if str(number) == text and abs(number) <= most else None
