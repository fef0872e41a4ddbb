"""How texts of lines are read, and where their first wrong sign is.

A READER takes a text line by line. reader.take(line) is whether a whole line may stand
next, and if so notes it; reader.line_on(part) a line that begins with part and may stand
next, None if there is none; reader.whole() whether the text may end here. After each line
that may stand somewhere, the text can be brought to an end, so a sign is wrong just if no
line goes on with it. A STOCK holds the names that may stand in a row: see names.py.
"""

from swaphouse.errors import BadText


def text_fault(text, reader):
    """None for a whole text, (0, 0) for no string; else (line, sign) of the first wrong sign, or the place behind."""
    if not isinstance(text, str):
        return (0, 0)
    lines = text.split("\n")
    for at, line in enumerate(lines[:-1]):
        if not reader.take(line):
            return (at + 1, wrong_sign(line, reader))
    if lines[-1] == "" and reader.whole():
        return None
    return (len(lines), wrong_sign(lines[-1], reader))


def check_text(text, reader):
    fault = text_fault(text, reader)
    if fault is not None:
        line, sign = fault
        raise BadText(line, sign)


def wrong_sign(line, reader):
    """The place, from 1, of the first sign that no line goes on with, one behind the line if there is none."""
    good = 0
    bad = len(line) + 1
    while bad - good > 1:
        middle = (good + bad) // 2
        if reader.line_on(line[:middle]) is None:
            bad = middle
        else:
            good = middle
    return good + 1


def names_told(names):
    return ", ".join(names)


def whole_row(text, stock, taken):
    """The row of unlike names of the stock, not taken, that is told by the text; None if it tells none."""
    seen = dict(taken)
    names = text.split(", ")
    for name in names:
        if name in seen or not stock.has(name):
            return None
        seen[name] = True
    return names


def row_on(part, stock, taken):
    """A row whose text begins with part, of unlike names of the stock, not taken; None if there is none."""
    words = part.split(", ")
    last = words[-1]
    ahead = words[:-1]
    if last.endswith(","):
        ahead = ahead + [last[:-1]]
        last = ""
    seen = dict(taken)
    for name in ahead:
        if name in seen or not stock.has(name):
            return None
        seen[name] = True
    name = stock.first(last, seen)
    return None if name is None else ahead + [name]


def row_line_on(head, part, stock, taken):
    """A line of head and a row that begins with part; None if there is none."""
    row = None
    if head.startswith(part):
        row = row_on("", stock, taken)
    elif part.startswith(head):
        row = row_on(part[len(head):], stock, taken)
    return None if row is None else head + names_told(row)
