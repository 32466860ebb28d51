"""Webs with two poles: what they are like for the colours of what is laid in a row or side by side."""

from botheven.masks import mask_of_figures, reduced
from botheven.webs import matrix_of

# The two lowest figures tell whether calm colours flow, and whether they push.
_WORDS = {1: "open", 2: "one", 3: "tie"}


def pole_type(web, one, other):
    """Return the type of the web with these poles."""
    matrix = matrix_of(web)
    told = [place for place in range(web[0]) if place not in (one, other)] + [one]
    rows = []
    for place in told[:-1] + [other]:
        # What the colour of this place alone makes odd: at the places between, at the one pole, and the push.
        rows.append(mask_of_figures([matrix[place][there] & 1 for there in told] + [int(place == other)]))
    base = reduced(rows)
    # Calm colours leave no figure but the lowest two; one row of the base has only these.
    return web[0] - 1 - len(base), _WORDS[base[-1]]


def in_row(first, second):
    """Return the type of two webs of these types in a row."""
    return _put_together(first, second, "one", "open")


def side_by_side(first, second):
    """Return the type of two webs of these types side by side."""
    return _put_together(first, second, "open", "one")


def _put_together(first, second, leaving, taking):
    """Return the type of both, one word leaving the other as it is, another one taking it in."""
    many = first[0] + second[0]
    words = (first[1], second[1])
    if leaving in words:
        return many, words[1 - words.index(leaving)]
    if words == ("tie", "tie"):
        return many, leaving
    return many + int(words == (taking, taking)), taking


def times_over(kind, m, leaving):
    """Return the type of m webs of one type put together, leaving being the word that leaves others as they are."""
    many, word = kind
    if word == leaving or word == "tie":
        return m * many, word if m & 1 else leaving
    return m * many + m - 1, word
