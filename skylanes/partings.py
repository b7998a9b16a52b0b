"""Whether two plans are clear of one another, with a paper that shows it."""

from skylanes.fractions import before, is_part, is_whole, minus, over, plus, times, whole
from skylanes.nearness import moment_at, pieces, size_of, together, too_near, turns
from skylanes.plans import spot_at


def row_of(begin, end, at):
    """The row of a paper for line number at of a piece."""
    sign = 1 if at % 2 == 0 else -1
    return (begin, end, at // 2, sign)


def longest(bottom, lines):
    """The pair of the number of the line that is bottom at least for longest from the begin on, and that share."""
    told = None
    for at, (first, last) in enumerate(lines):
        if first >= bottom:
            share = (1, 1) if last >= bottom else (first - bottom, first - last)
            if told is None or before(told[1], share):
                told = (at, share)
    return told


def rows_of(piece):
    """One row or two for a piece in which they are never too near."""
    begin, end, bottom, lines = piece
    former, share = longest(bottom, lines)
    if share == (1, 1):
        return [row_of(begin, end, former)]
    # Where the first row gives out, a line that rises is high enough already, and stays so: of
    # those that are so at the end it is the one that is so for longest, looking back.
    latter = longest(bottom, [(last, first) for first, last in lines])[0]
    cut = moment_at(begin, end, share)
    return [row_of(begin, cut, former), row_of(cut, end, latter)]


def parting(one, other, apart):
    """("near", m) of a moment at which they are too near, or ("clear", paper)."""
    near = too_near(one, other, apart)
    if near:
        begin, held, end = near[0]
        return ("near", over(plus(begin, end), whole(2)))
    return ("clear", tuple([row for piece in pieces(one, other, apart) for row in rows_of(piece)]))


def is_row(thing):
    """Whether any thing is made like a row of a paper."""
    if not isinstance(thing, (tuple, list)) or len(thing) != 4:
        return False
    begin, end, side, sign = thing
    if not is_part(begin) or not is_part(end) or not is_whole(side) or not is_whole(sign):
        return False
    return side in (0, 1, 2) and sign in (1, -1)


def holds(one, other, apart, row):
    """Whether they are apart by a row, from its begin to its end; it is enough to look where one turns."""
    begin, end, side, sign = row
    for m in turns(one, other, begin, end):
        off = minus(spot_at(one, m)[side], spot_at(other, m)[side])
        if before(times(whole(sign), off), size_of(apart, side)):
            return False
    return True


def shows_parting(one, other, apart, paper):
    """Whether any thing is a paper that shows two plans to be clear of one another."""
    if not isinstance(paper, (tuple, list)):
        return False
    span = together(one, other)
    if span is None:
        return len(paper) == 0
    at, last = span
    for row in paper:
        if not is_row(row):
            return False
        begin = tuple(row[0])
        end = tuple(row[1])
        if begin != at or not before(begin, end) or before(last, end):
            return False
        if not holds(one, other, apart, (begin, end, row[2], row[3])):
            return False
        at = end
    return at == last
