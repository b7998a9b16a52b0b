"""Whether two flights may meet, within their bounds: by which own moments, or a paper that shows they can't."""

from skylanes.fractions import before, common, minus, plus, whole
from skylanes.planes import fault_in, placed, plane_of, value_in, without
from skylanes.plans import spot_at
from skylanes.wedges import ONCE, STRICT, form_of, negative, sizes_of, wedges_of


def is_there(plan, m):
    """Whether the machine of a plan is there at a moment: at the last one it isn't."""
    return not before(m, plan[0][0]) and before(m, plan[-1][0])


def is_one_time(one, other, s, t):
    """Whether two flights may have these own moments at one and the same time."""
    ahead = minus(s, t)
    return not before(ahead, negative(one[1][2])) and not before(other[1][2], ahead)


def is_meet(one, other, apart, s, t):
    """Whether two flights may meet by these own moments."""
    if not is_there(one[0], s) or not is_there(other[0], t) or not is_one_time(one, other, s, t):
        return False
    for here, there, size in zip(spot_at(one[0], s), spot_at(other[0], t), sizes_of(one, other, apart)):
        top, bottom = minus(here, there)
        if not before((abs(top), bottom), size):
            return False
    return True


def weights_by_time(wedge):
    """The weights that show two pieces to be flown at no one time, None where they may be."""
    one, other, sizes, lates = wedge
    if not before(one[0], plus(other[1], lates[1])):
        return ((0, ONCE), (3, ONCE), (5, ONCE))
    if not before(other[0], plus(one[1], lates[0])):
        return ((1, ONCE), (2, ONCE), (4, ONCE))
    return None


def told_weights(weights):
    """Weights as a paper has them; what goes evenly into all of them is taken out."""
    shared = 0
    for weight in weights.values():
        shared = common(weight, shared)
    return tuple([(number, whole(weights[number] // shared)) for number in sorted(weights)])


def meet_in(wedge):
    """The pair (None, weights) of two pieces that can't meet, or (moments, None) of two that may."""
    # Most pieces are parted by time: what is seen at once needn't be sought.
    weights = weights_by_time(wedge)
    if weights is not None:
        return (None, weights)
    planes = [plane_of(form_of(wedge, number), STRICT[number], number) for number in range(12)]
    first = without(planes, 2)
    fault = fault_in(first, 1)
    if fault is not None:
        return (None, told_weights(fault[2]))
    s = value_in(first, 1)
    return ((s, value_in([placed(plane, 1, s) for plane in planes], 2)), None)


def meet_of(one, other, apart):
    """("meet", s, t) of own moments by which two flights may meet, or ("apart", paper)."""
    rows = []
    for i, j, wedge in wedges_of(one, other, apart):
        moments, weights = meet_in(wedge)
        if moments is not None:
            return ("meet", moments[0], moments[1])
        rows.append((i, j, weights))
    return ("apart", tuple(rows))


def may_meet(one, other, apart):
    """Whether two flights may meet at all."""
    return meet_of(one, other, apart)[0] == "meet"
