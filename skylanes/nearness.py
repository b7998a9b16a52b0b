"""Where two machines come nearest, and where they are too near."""

from skylanes.fractions import before, greater, lesser, minus, over, part, plus, rising, shared_bottom, times
from skylanes.plans import corners_between, spot_at
from skylanes.stretches import told_set


def together(one, other):
    """The pair of the moments from which on, and below which, both are there; None where never."""
    begin = greater(one[0][0], other[0][0])
    end = lesser(one[-1][0], other[-1][0])
    return (begin, end) if before(begin, end) else None


def turns(one, other, begin, end):
    """Begin, all moments of corners up to end, and end, rising: between two of them both go straight."""
    corners = corners_between(one, begin, end) + corners_between(other, begin, end)
    return rising([begin, end] + [corner[0] for corner in corners])


def size_of(apart, side):
    """What of a distance counts at a side: 0, 1, 2 for x, y, z."""
    return apart[1] if side == 2 else apart[0]


def offs_at(one, other, apart, m):
    """How far one is off the other at each side, over the distance, where both have a spot."""
    here = spot_at(one, m)
    there = spot_at(other, m)
    return [over(minus(here[side], there[side]), size_of(apart, side)) for side in range(3)]


def gap_at(one, other, apart, m):
    """The gap of two plans at a moment, None where not both are there."""
    span = together(one, other)
    if span is None or before(m, span[0]) or not before(m, span[1]):
        return None
    gap = (0, 1)
    for top, bottom in offs_at(one, other, apart, m):
        gap = greater(gap, (abs(top), bottom))
    return gap


def lines_of(first, last):
    """The pair (bottom, lines) of the offs at both ends of a piece.

    A line is the pair of what an off (or minus it) is at both ends, times bottom: all of a
    piece in whole numbers of one measure. The gap is the greatest of the six lines.
    """
    bottom = shared_bottom(first + last)
    lines = []
    for former, latter in zip(first, last):
        low = former[0] * (bottom // former[1])
        high = latter[0] * (bottom // latter[1])
        lines.append((low, high))
        lines.append((-low, -high))
    return (bottom, lines)


def pieces(one, other, apart):
    """A list of (begin, end, bottom, lines): the time of both, parted where one of them turns."""
    span = together(one, other)
    if span is None:
        return []
    moments = turns(one, other, span[0], span[1])
    offs = [offs_at(one, other, apart, m) for m in moments]
    told = []
    for at in range(1, len(moments)):
        bottom, lines = lines_of(offs[at - 1], offs[at])
        told.append((moments[at - 1], moments[at], bottom, lines))
    return told


def moment_at(begin, end, share):
    """The moment at a share of the way from begin to end; the share needn't be in lowest terms."""
    return plus(begin, times(part(share[0], share[1]), minus(end, begin)))


def meeting_shares(lines):
    """The shares of a piece at which a line comes to be above another one."""
    told = []
    for low, high in lines:
        for base, peak in lines:
            if base < low and high < peak:
                told.append((low - base, low - base + peak - high))
    return told


def gap_by_share(bottom, lines, share):
    """The gap at a share of a piece, not in lowest terms."""
    top, whole_way = share
    heights = [low * (whole_way - top) + high * top for low, high in lines]
    return (max(heights), bottom * whole_way)


def least_in(piece):
    """The pair of the least gap of a piece, both ends counted, and its least moment."""
    begin, end, bottom, lines = piece
    best = (0, 1)
    least = gap_by_share(bottom, lines, best)
    # Between two meetings one line stays the greatest, and is least at one of the two.
    for share in meeting_shares(lines) + [(1, 1)]:
        gap = gap_by_share(bottom, lines, share)
        if before(gap, least) or (not before(least, gap) and before(share, best)):
            best = share
            least = gap
    return (part(least[0], least[1]), moment_at(begin, end, best))


def nearest(one, other, apart):
    """The pair of the least gap and its least moment, None where never both are there."""
    told = None
    for piece in pieces(one, other, apart):
        found = least_in(piece)
        if told is None or before(found[0], told[0]):
            told = found
    return told


def near_in(piece):
    """A list of the one stretch of a piece in which they are too near, or of none."""
    begin, end, bottom, lines = piece
    low = (0, 1)
    held = 1
    high = (1, 1)
    for first, last in lines:
        if first >= bottom and last >= bottom:
            return []
        if first >= bottom:
            share = (first - bottom, first - last)
            if not before(share, low):
                low = share
                held = 0
        elif last > bottom:
            high = lesser(high, (bottom - first, last - first))
    if not before(low, high):
        return []
    return [(moment_at(begin, end, low), held, moment_at(begin, end, high))]


def too_near(one, other, apart):
    """The set of all moments at which two machines are too near."""
    return told_set([stretch for piece in pieces(one, other, apart) for stretch in near_in(piece)])
