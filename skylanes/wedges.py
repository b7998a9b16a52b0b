"""Wedges: two pieces of flights, and the twelve numbers by which they may meet.

A piece is a tuple (begin, end, lines) of a plan between two corners: lines are for x, y, z the pair
(base, slope), the number there being base and slope times the moment. A wedge is a tuple (one,
other, sizes, lates): two pieces, how near they must come in x, y and z, and how late both may be.
"""

from skylanes.fractions import minus, over, plus, times
from skylanes.nearness import size_of

NOUGHT = (0, 1)
ONCE = (1, 1)
BACK = (-1, 1)

# Which of the twelve numbers are above 0 at a meet; the others are from 0 on.
STRICT = (0, 1, 0, 1, 0, 0, 1, 1, 1, 1, 1, 1)


def negative(number):
    """Nought less a fraction."""
    return (-number[0], number[1])


def piece_between(former, latter):
    """The piece of the straight way between two corners."""
    span = minus(latter[0], former[0])
    lines = []
    for low, high in zip(former[1:], latter[1:]):
        slope = over(minus(high, low), span)
        lines.append((minus(low, times(slope, former[0])), slope))
    return (former[0], latter[0], lines)


def pieces_of(plan):
    """The list of a plan's pieces."""
    return [piece_between(plan[at], plan[at + 1]) for at in range(len(plan) - 1)]


def sizes_of(one, other, apart):
    """For each side how near two flights must come for a meet; their bounds begin like a distance."""
    told = []
    for side in range(3):
        asides = plus(size_of(one[1], side), size_of(other[1], side))
        told.append(plus(size_of(apart, side), asides))
    return told


def wedges_of(one, other, apart):
    """A list of (i, j, wedge) for each piece i of one flight and j of the other, by i and then j."""
    sizes = sizes_of(one, other, apart)
    lates = (one[1][2], other[1][2])
    others = pieces_of(other[0])
    told = []
    for i, former in enumerate(pieces_of(one[0])):
        for j, latter in enumerate(others):
            told.append((i, j, (former, latter, sizes, lates)))
    return told


def time_form(wedge, number):
    """Of the numbers 0 to 5 one, as a form of both own moments."""
    one, other, sizes, lates = wedge
    forms = (
        (negative(one[0]), ONCE, NOUGHT),
        (one[1], BACK, NOUGHT),
        (negative(other[0]), NOUGHT, ONCE),
        (other[1], NOUGHT, BACK),
        (lates[0], ONCE, BACK),
        (lates[1], BACK, ONCE),
    )
    return forms[number]


def side_form(wedge, number):
    """Of the numbers 6 to 11 one, as a form of both own moments."""
    one, other, sizes, lates = wedge
    side = (number - 6) // 2
    base, slope = one[2][side]
    other_base, other_slope = other[2][side]
    off = minus(base, other_base)
    if number % 2 == 0:
        return (minus(sizes[side], off), negative(slope), other_slope)
    return (plus(sizes[side], off), slope, negative(other_slope))


def form_of(wedge, number):
    """One of the twelve numbers, as a form of both own moments."""
    return time_form(wedge, number) if number < 6 else side_form(wedge, number)
