"""Sets of moments, told as stretches (begin, held, end)."""

from skylanes.fractions import before, plus, rising


def steps_of(stretches):
    """By how much the count of stretches rises at each place.

    A place is a pair of a moment and a side: 0 is at the moment, 1 straight behind it.
    So each stretch goes from a place to below a place, whether its begin is held or not.
    """
    steps = {}
    for begin, held, end in stretches:
        first = (begin, 1 - held)
        steps[first] = steps.get(first, 0) + 1
        if end is not None:
            last = (end, 0)
            steps[last] = steps.get(last, 0) - 1
    return steps


def levels(stretches):
    """A rising list of (moment, side, count): how many stretches there are from that place on."""
    steps = steps_of(stretches)
    told = []
    count = 0
    for moment in rising([moment for moment, side in list(steps)]):
        for side in (0, 1):
            if (moment, side) in steps:
                count += steps[(moment, side)]
                told.append((moment, side, count))
    return told


def counted(stretches, n):
    """The set of the moments that are in n or more of some stretches, each of which counts."""
    told = []
    begin = None
    for moment, side, count in levels(stretches):
        if begin is None and count >= n:
            begin = (moment, 1 - side)
        elif begin is not None and count < n:
            told.append((begin[0], begin[1], moment))
            begin = None
    if begin is not None:
        told.append((begin[0], begin[1], None))
    return tuple(told)


def told_set(stretches):
    """The set of moments, as few stretches as there can be, rising."""
    return counted(stretches, 1)


def all_stretches(sets):
    """The stretches of several sets; no two of one set have a moment in common."""
    return [stretch for stretches in sets for stretch in told_set(stretches)]


def is_in_one(stretch, m):
    """Whether a moment is in a stretch."""
    begin, held, end = stretch
    if m == begin:
        return held == 1
    return before(begin, m) and (end is None or before(m, end))


def is_in(stretches, m):
    """Whether a moment is in a set."""
    return any([is_in_one(stretch, m) for stretch in stretches])


def many_of(sets, n):
    """The moments that are in n or more of a list of sets."""
    return counted(all_stretches(sets), n)


def both_of(one, other):
    """The moments that are in both sets."""
    return many_of([one, other], 2)


def most_in(sets):
    """The greatest n for which many_of has a moment, and its first stretch."""
    stretches = all_stretches(sets)
    most = max([count for moment, side, count in levels(stretches)], default=0)
    if most == 0:
        return (0, None)
    return (most, counted(stretches, most)[0])


def out_from(stretches, m):
    """The least moment from m on that isn't in the set, None where there is none."""
    for stretch in told_set(stretches):
        if is_in_one(stretch, m):
            # The end of a told stretch is in no other one.
            return stretch[2]
    return m


def later_by(stretches, by):
    """The moments from which a span from 0 to by goes back into the set."""
    longer = []
    for begin, held, end in stretches:
        longer.append((begin, held, None if end is None else plus(end, by)))
    return told_set(longer)
