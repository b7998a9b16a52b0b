"""Plans: corners (m, x, y, z), straight and evenly flown from one to the next."""

from skylanes.errors import BadPlan
from skylanes.fractions import before, greater, is_part, lesser, minus, over, plus, times


def tupled(rows):
    """Rows that may be lists, as a tuple of tuples."""
    return tuple([tuple(row) for row in rows])


def all_tuples(thing):
    """A thing that may be made of lists, made of tuples all through."""
    return tuple([all_tuples(part) for part in thing]) if isinstance(thing, (tuple, list)) else thing


def is_corner(thing):
    """Whether any thing is a tuple or a list of four fractions."""
    if not isinstance(thing, (tuple, list)) or len(thing) != 4:
        return False
    return all([is_part(number) for number in thing])


def look_plan(plan):
    """The plan, made of tuples; refused with BadPlan where it is none."""
    corners = []
    for place, thing in enumerate(plan):
        if not is_corner(thing):
            raise BadPlan(place)
        corner = tupled(thing)
        if corners and not before(corners[-1][0], corner[0]):
            raise BadPlan(place)
        corners.append(corner)
    if len(corners) < 2:
        raise BadPlan(len(corners))
    return tuple(corners)


def spot_between(former, latter, m):
    """The spot at a moment on the straight way between two corners."""
    share = over(minus(m, former[0]), minus(latter[0], former[0]))
    return tuple([plus(low, times(share, minus(high, low))) for low, high in zip(former[1:], latter[1:])])


def spot_at(plan, m):
    """The spot (x, y, z) at a moment, at the last one too; None where it isn't there."""
    if before(m, plan[0][0]):
        return None
    for at in range(1, len(plan)):
        if not before(plan[at][0], m):
            return spot_between(plan[at - 1], plan[at], m)
    return None


def corner_at(plan, m):
    """The corner that a plan has, or would have, at one of its moments."""
    return (m,) + spot_at(plan, m)


def later(plan, by):
    """The plan, all moments by so much later."""
    return tuple([(plus(m, by), x, y, z) for m, x, y, z in plan])


def put_off(plan, x, y, z):
    """The plan, all corners so much further."""
    return tuple([(m, plus(east, x), plus(north, y), plus(high, z)) for m, east, north, high in plan])


def corners_between(plan, begin, end):
    """The corners of a plan above one moment and below another."""
    return [tuple(corner) for corner in plan if before(begin, corner[0]) and before(corner[0], end)]


def part_of(plan, begin, end):
    """The plan between two moments, None where it is never there between them."""
    first = greater(begin, plan[0][0])
    last = lesser(end, plan[-1][0])
    if not before(first, last):
        return None
    inner = corners_between(plan, first, last)
    return tuple([corner_at(plan, first)] + inner + [corner_at(plan, last)])


def is_straight(former, corner, latter):
    """Whether it goes straight and evenly through a corner from the one ahead to the one behind."""
    ahead = minus(corner[0], former[0])
    behind = minus(latter[0], corner[0])
    for side in (1, 2, 3):
        way_in = minus(corner[side], former[side])
        way_out = minus(latter[side], corner[side])
        if times(way_in, behind) != times(way_out, ahead):
            return False
    return True


def fewest(plan):
    """The plan without all inner corners through which it goes straight and evenly."""
    inner = []
    for at in range(1, len(plan) - 1):
        if not is_straight(plan[at - 1], plan[at], plan[at + 1]):
            inner.append(plan[at])
    return tupled([plan[0]] + inner + [plan[-1]])


def same_flights(one, other):
    """Whether two plans are flown alike."""
    return fewest(one) == fewest(other)
