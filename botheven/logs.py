"""Logs: the texts of edits, line by line, and benches behind them."""

from botheven.benches import Bench
from botheven.bounds import MAX_NEST, MAX_TIMES
from botheven.errors import BadLog, BadText, BothError
from botheven.figures import integer_of
from botheven.kinds import name_like
from botheven.shelves import is_edit


def _text_of(value):
    """Return the text of an integer, a word or a tuple."""
    if isinstance(value, tuple):
        return "(" + ",".join([_text_of(item) for item in value]) + ")"
    return str(value)


def log_text(edits):
    """Return the texts of the edit tuples, each with a line feed behind it."""
    return "".join([_text_of(edit) + "\n" for edit in edits])


def _tuple_at(text, at, depth):
    """Return the tuple whose items' texts begin here, within so many brackets, and the place behind it."""
    if depth > MAX_NEST:
        raise BadText()
    if text[at:at + 1] == ")":
        return (), at + 1
    items = []
    sign = ","
    while sign == ",":
        item, at = _item_at(text, at, depth)
        items.append(item)
        sign = text[at:at + 1]
        at += 1
    if sign != ")":
        raise BadText()
    return tuple(items), at


def _item_at(text, at, depth):
    """Return the value whose text begins here, within so many brackets, and the place behind it."""
    if text[at:at + 1] == "(":
        return _tuple_at(text, at + 1, depth + 1)
    end = at
    while end < len(text) and text[end] not in "(),":
        end += 1
    word = text[at:end]
    value = word if name_like(word) else integer_of(word, MAX_TIMES)
    if value is None:
        raise BadText()
    return value, end


def _edit_of(line):
    """Return the edit tuple of which the line is the text."""
    value, end = _item_at(line, 0, 0)
    if end != len(line) or not is_edit(value):
        raise BadText()
    return value


def read_log(value):
    """Return the edit tuples of which the lines are the texts."""
    if not isinstance(value, str):
        raise BadLog(0)
    edits = []
    for place, line in enumerate(value.split("\n")[:-1]):
        try:
            edits.append(_edit_of(line))
        except BadText:
            raise BadLog(place) from None
    return tuple(edits)


def bench_behind(edits):
    """Return a new bench by which all the edits were done."""
    bench = Bench()
    for place, edit in enumerate(edits):
        try:
            bench.edit(edit)
        except BothError:
            raise BadLog(place) from None
    return bench
