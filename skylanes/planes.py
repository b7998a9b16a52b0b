"""Planes: numbers that hang on unknowns, and are all to be from 0 on, or above 0, at once.

A form is a tuple of fractions: a number by itself, then for each unknown how many times it counts.
A plane is a tuple (numbers, strict, weights): numbers are a form in whole numbers, strict is 1 where
their sum is to be above 0, and 0 where it may be 0, too. weights is a dict: how many times each of
the forms at the start is taken in it, by the numbers that these were given.
"""

from skylanes.fractions import before, over, part, plus, shared_bottom, whole


def plane_of(form, strict, number):
    """The plane of a form, which weights call by that number."""
    shared = shared_bottom(form)
    numbers = tuple([top * (shared // bottom) for top, bottom in form])
    return (numbers, strict, {number: shared})


def summed(one, many, other, more):
    """The plane of many times one and more times other, both above 0."""
    numbers = tuple([many * former + more * latter for former, latter in zip(one[0], other[0])])
    weights = {number: many * weight for number, weight in one[2].items()}
    for number, weight in other[2].items():
        weights[number] = weights.get(number, 0) + more * weight
    return (numbers, max(one[1], other[1]), weights)


def crossed(low, high, at):
    """The sum of a plane that holds an unknown from below and one from above, in which it counts no more."""
    return summed(low, -high[0][at], high, low[0][at])


def without(planes, at, most=2):
    """Planes without an unknown, which all hold just where there is a number for it by which the given ones do.

    most is one more than the unknowns that are out by then: a sum of more of the forms at the start
    is a sum of such sums, and says nothing that they don't.
    """
    lows = [plane for plane in planes if plane[0][at] > 0]
    highs = [plane for plane in planes if plane[0][at] < 0]
    told = [plane for plane in planes if plane[0][at] == 0]
    for low in lows:
        for high in highs:
            if len(set(low[2]) | set(high[2])) <= most:
                told.append(crossed(low, high, at))
    return told


def placed(plane, at, value):
    """The plane where an unknown has a value."""
    top, bottom = value
    numbers = [bottom * number for number in plane[0]]
    numbers[0] += plane[0][at] * top
    numbers[at] = 0
    return (tuple(numbers), plane[1], plane[2])


def is_never(plane):
    """Whether a plane in which no unknown counts doesn't hold."""
    total = plane[0][0]
    return total < 0 or (total == 0 and plane[1] == 1)


def turn_of(plane, at):
    """The number of the one unknown at which a plane is 0; not in lowest terms, but its bottom is above 0."""
    total = plane[0][0]
    factor = plane[0][at]
    return (-total, factor) if factor > 0 else (total, -factor)


def is_tighter(plane, other, at):
    """Whether a plane leaves less of the one unknown than another, that holds it from the same side."""
    here = turn_of(plane, at)
    there = turn_of(other, at)
    if before(here, there):
        return plane[0][at] < 0
    if before(there, here):
        return plane[0][at] > 0
    return plane[1] > other[1]


def tightest(planes, at, sign):
    """The plane that leaves least of the one unknown from below (sign 1), or from above (sign -1)."""
    told = None
    for plane in planes:
        if plane[0][at] * sign > 0 and (told is None or is_tighter(plane, told, at)):
            told = plane
    return told


def fault_in(planes, at):
    """A sum of planes of one unknown alone, held from below, that never holds; None where all can hold."""
    for plane in planes:
        if plane[0][at] == 0 and is_never(plane):
            return plane
    high = tightest(planes, at, -1)
    if high is None:
        return None
    both = crossed(tightest(planes, at, 1), high, at)
    return both if is_never(both) else None


def range_in(planes, at):
    """The tuple (least, held, greatest) of the one unknown, of planes that can all hold.

    held is 1 where it may be the least number itself; greatest is None where it isn't held from above.
    """
    low = tightest(planes, at, 1)
    least = turn_of(low, at)
    least = part(least[0], least[1])
    high = tightest(planes, at, -1)
    if high is None:
        return (least, 1 - low[1], None)
    greatest = turn_of(high, at)
    return (least, 1 - low[1], part(greatest[0], greatest[1]))


def value_in(planes, at):
    """A number for the one unknown, held from both sides, by which planes that can all hold do so."""
    least, held, greatest = range_in(planes, at)
    # Halfway no plane is 0, unless both are alike: then none of the two is strict.
    return over(plus(least, greatest), whole(2))
