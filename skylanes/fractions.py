"""Exact fractions: tuples (top, bottom) in lowest terms, bottom above nought."""


def is_whole(thing):
    """Whether any thing is a whole number; True and False are none."""
    return isinstance(thing, int) and not isinstance(thing, bool)


def common(one, other):
    """The greatest number that goes evenly into two numbers from 0 on, not both 0."""
    while other != 0:
        one, other = other, one % other
    return one


def part(top, bottom):
    """The fraction of two whole numbers, bottom not nought."""
    shared = common(abs(top), abs(bottom))
    if bottom < 0:
        shared = -shared
    return (top // shared, bottom // shared)


def whole(n):
    """The fraction of a whole number."""
    return (n, 1)


def plus(one, other):
    """The sum of two fractions."""
    return part(one[0] * other[1] + other[0] * one[1], one[1] * other[1])


def minus(one, other):
    """One fraction less the other."""
    return part(one[0] * other[1] - other[0] * one[1], one[1] * other[1])


def times(one, other):
    """The product of two fractions."""
    return part(one[0] * other[0], one[1] * other[1])


def over(one, other):
    """One fraction parted by the other, which isn't nought."""
    return part(one[0] * other[1], one[1] * other[0])


def before(one, other):
    """Whether one fraction is less than the other; lowest terms aren't needed."""
    return one[0] * other[1] < other[0] * one[1]


def lesser(one, other):
    """The lesser one of two fractions."""
    return other if before(other, one) else one


def greater(one, other):
    """The greater one of two fractions."""
    return other if before(one, other) else one


def is_part(thing):
    """Whether any thing is a fraction, as a tuple or a list."""
    if not isinstance(thing, (tuple, list)) or len(thing) != 2:
        return False
    top, bottom = thing
    if not is_whole(top) or not is_whole(bottom):
        return False
    return bottom > 0 and common(abs(top), bottom) == 1


def shared_bottom(numbers):
    """The least number into which the bottoms of all fractions go evenly."""
    told = 1
    for top, bottom in numbers:
        told *= bottom // common(told, bottom)
    return told


def count_below(numbers, number):
    """How many of a rising list of fractions are below a number."""
    low = 0
    high = len(numbers)
    while low < high:
        middle = (low + high) // 2
        if before(numbers[middle], number):
            low = middle + 1
        else:
            high = middle
    return low


def rising(numbers):
    """The list of some fractions, rising, each of them once."""
    told = []
    for number in numbers:
        at = count_below(told, number)
        if at == len(told) or told[at] != number:
            told.insert(at, number)
    return told
