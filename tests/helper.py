"""What the tests share: fractions as they are told, and a likeness that sees kinds."""

import random
import unittest
from fractions import Fraction


def f(number, bottom=1):
    """The told fraction of a number, a text like "1/2", or a top and a bottom."""
    number = Fraction(number) / bottom
    return (number.numerator, number.denominator)


def number(pair):
    return Fraction(pair[0], pair[1])


def alike(one, other):
    """Equal, and of the very same kinds all through: 1 isn't True, a tuple isn't a list."""
    if type(one) is not type(other):
        return False
    if isinstance(one, (tuple, list)):
        return len(one) == len(other) and all(alike(a, b) for a, b in zip(one, other))
    return one == other


def plan_of(*corners):
    """A plan of corners, each told by four numbers."""
    return tuple(tuple(f(value) for value in corner) for corner in corners)


def flight(*corners, aside=0, above=0, late=0):
    """A flight of corners, each told by four numbers, and its bounds."""
    return (plan_of(*corners), (f(aside), f(above), f(late)))


def listed(thing):
    """The same, of lists all through but the fractions in it."""
    if isinstance(thing, tuple) and not (len(thing) == 2 and all(type(value) is int for value in thing)):
        return [listed(value) for value in thing]
    return thing


def all_listed(thing):
    """The same, of lists all through."""
    return [all_listed(value) for value in thing] if isinstance(thing, (tuple, list)) else thing


def some_plan(rnd, most=6, far=4):
    """A plan of small numbers, so that two of them often turn, or come just so near, at one moment."""
    many = rnd.randint(2, most)
    moments = sorted(rnd.sample(range(-6, 14), many))
    bottom = rnd.choice((1, 1, 2, 3))
    return tuple(
        (f(m, bottom),) + tuple(f(rnd.randint(-far, far), rnd.choice((1, 1, 1, 2))) for _ in range(3))
        for m in moments
    )


def pairs(many, **how):
    """Two plans and a distance, for as many seeds."""
    for seed in range(many):
        rnd = random.Random(seed)
        yield some_plan(rnd, **how), some_plan(rnd, **how), (f(rnd.randint(1, 6), 2), f(rnd.randint(1, 6), 2))


def spot(plan, m):
    """Where a plan is, in Python's own fractions, its last moment counted; None where it isn't."""
    for former, latter in zip(plan, plan[1:]):
        begin, end = number(former[0]), number(latter[0])
        if begin <= m <= end:
            share = (m - begin) / (end - begin)
            return tuple(number(low) + share * (number(high) - number(low))
                         for low, high in zip(former[1:], latter[1:]))
    return None


def may_meet(one, other, apart, s, t):
    """Whether two flights may meet by own moments, in Python's own fractions, by the document's words."""
    for (plan, _), m in ((one, s), (other, t)):
        if not number(plan[0][0]) <= m < number(plan[-1][0]):
            return False
    if not -number(one[1][2]) <= s - t <= number(other[1][2]):
        return False
    offs = [abs(here - there) for here, there in zip(spot(one[0], s), spot(other[0], t))]
    wide = number(apart[0]) + number(one[1][0]) + number(other[1][0])
    high = number(apart[1]) + number(one[1][1]) + number(other[1][1])
    return offs[0] < wide and offs[1] < wide and offs[2] < high


def some_bounds(rnd):
    """Bounds of a flight, of nothing at times, and at times of some of the three alone."""
    return tuple(f(rnd.choice((0, 0, 1, 2, 5)), 2) for _ in range(3))


def flights(many, **how):
    """Two flights and a distance, for as many seeds."""
    for seed, (one, other, apart) in enumerate(pairs(many, **how)):
        rnd = random.Random(seed)
        yield (one, some_bounds(rnd)), (other, some_bounds(rnd)), apart


def straight(plan, at, s):
    """The spot of a moment by the straight line of a piece, whether it is in the piece or not."""
    former, latter = plan[at], plan[at + 1]
    share = (s - number(former[0])) / (number(latter[0]) - number(former[0]))
    return [number(low) + share * (number(high) - number(low)) for low, high in zip(former[1:], latter[1:])]


def twelve(one, other, apart, i, j, s, t):
    """The twelve numbers by the document's words."""
    (plan, bounds), (other_plan, other_bounds) = one, other
    told = [s - number(plan[i][0]), number(plan[i + 1][0]) - s,
            t - number(other_plan[j][0]), number(other_plan[j + 1][0]) - t,
            s - t + number(bounds[2]), t - s + number(other_bounds[2])]
    here, there = straight(plan, i, s), straight(other_plan, j, t)
    for side in range(3):
        kind = 1 if side == 2 else 0
        size = number(apart[kind]) + number(bounds[kind]) + number(other_bounds[kind])
        told += [size - (here[side] - there[side]), size + (here[side] - there[side])]
    return told


def st(begin, held, end):
    return (f(begin), held, None if end is None else f(end))


def holds(stretch, m):
    """Whether a moment is in a stretch, by the document's words alone."""
    begin, held, end = stretch
    if number(begin) == m:
        return held == 1
    return number(begin) < m and (end is None or m < number(end))


def member(stretches, m):
    return any(holds(stretch, m) for stretch in stretches)


def probes(*numbers):
    """All of the numbers, one moment between each two, and one at either side."""
    rows = sorted(set(numbers)) or [Fraction(0)]
    between = [(low + high) / 2 for low, high in zip(rows, rows[1:])]
    return sorted(rows + between + [rows[0] - 1, rows[-1] + 1])


def ends_of(stretches):
    rows = []
    for begin, _, end in stretches:
        rows.append(number(begin))
        if end is not None:
            rows.append(number(end))
    return rows


class Base(unittest.TestCase):
    def same(self, answer, wanted):
        if not alike(answer, wanted):
            self.assertEqual(answer, wanted)
            self.fail("equal, but of other kinds")


class Sets(Base):
    def as_told(self, stretches):
        """As few stretches as there can be, rising, all of tuples."""
        self.assertIs(type(stretches), tuple)
        for begin, held, end in stretches:
            self.assertIs(type(held), int)
            self.assertIn(held, (0, 1))
            self.assertTrue(end is None or number(begin) < number(end))
        for former, latter in zip(stretches, stretches[1:]):
            self.assertIs(type(former), tuple)
            self.assertIsNotNone(former[2])
            low, high = number(former[2]), number(latter[0])
            self.assertTrue(low < high or (low == high and latter[1] == 0))

    def tells(self, answer, moments, wanted):
        self.as_told(answer)
        for m in moments:
            self.assertEqual(member(answer, m), wanted(m), (answer, m))
