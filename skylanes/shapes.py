"""Shapes (word, amount), by which a plan is changed from a moment on."""

from skylanes.fractions import before, greater, minus, plus, times, whole
from skylanes.plans import corner_at, later, put_off, tupled

WAYS = {
    "east": (1, 0, 0),
    "west": (-1, 0, 0),
    "north": (0, 1, 0),
    "south": (0, -1, 0),
    "up": (0, 0, 1),
    "down": (0, 0, -1),
}


def waited(former, corner, latter, amount):
    """By "wait": what comes from the corner on is later; a machine on its way stays there as long."""
    delayed = later((corner,) + latter, amount)
    if former:
        return former + (corner,) + delayed
    return delayed


def slowed(former, corner, latter, amount):
    """By "slow": what comes behind the corner takes longer, in the same measure."""
    factor = plus(whole(1), amount)
    begin = corner[0]
    behind = [(plus(begin, times(factor, minus(m, begin))), x, y, z) for m, x, y, z in latter]
    return former + (corner,) + tuple(behind)


def led_round(former, corner, latter, way, amount):
    """By a way round: all behind the corner but the last one are put off; None where there are none."""
    if len(latter) < 2:
        return None
    x, y, z = [times(whole(sign), amount) for sign in way]
    return former + (corner,) + put_off(latter[:-1], x, y, z) + latter[-1:]


def cut_at(corners, now):
    """The tuple (former, corner, latter) of a plan that isn't over: the corner from which on it is shaped, and the
    corners ahead of it and behind it."""
    begin = greater(now, corners[0][0])
    former = tuple([corner for corner in corners if before(corner[0], begin)])
    latter = tuple([corner for corner in corners if before(begin, corner[0])])
    return (former, corner_at(corners, begin), latter)


def shaped(plan, shape, now):
    """The plan by a shape from now on; None where there is no corner to put off."""
    word, amount = shape
    corners = tupled(plan)
    if amount[0] == 0 or not before(now, corners[-1][0]):
        return corners
    former, corner, latter = cut_at(corners, now)
    if word == "wait":
        return waited(former, corner, latter, amount)
    if word == "slow":
        return slowed(former, corner, latter, amount)
    return led_round(former, corner, latter, WAYS[word], amount)


def by_shapes(plan, shapes, now):
    """The plan by one shape behind the other; None where one tells None."""
    told = tupled(plan)
    for shape in shapes:
        told = shaped(told, shape, now)
        if told is None:
            return None
    return told


def flight_by(flight, shapes, now):
    """The flight by one shape behind the other, its bounds as they were; None where one tells None."""
    plan = by_shapes(flight[0], shapes, now)
    return None if plan is None else (plan, tuple(flight[1]))
