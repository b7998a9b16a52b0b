import copy
import itertools
import random
import unittest
from fractions import Fraction

from helper import Base, f, listed, number, pairs, plan_of, spot
from skylanes.nearness import gap_at, nearest, too_near

APART = (f(2), f(1))


def span_of(one, other):
    begin = max(number(one[0][0]), number(other[0][0]))
    end = min(number(one[-1][0]), number(other[-1][0]))
    return (begin, end) if begin < end else None


def gap_of(one, other, apart, m):
    """The gap in Python's own fractions, by the spots to which they come at the last moment, too."""
    wide, high = number(apart[0]), number(apart[1])
    offs = [a - b for a, b in zip(spot(one, m), spot(other, m))]
    return max(abs(offs[0]) / wide, abs(offs[1]) / wide, abs(offs[2]) / high)


def turns_of(one, other):
    begin, end = span_of(one, other)
    inner = {number(c[0]) for c in one + other if begin < number(c[0]) < end}
    return sorted(inner | {begin, end})


def critical(one, other, apart):
    """All moments at which two of the six numbers, or one of them and 1, are alike, and the corners."""
    told = set(turns_of(one, other))
    sizes = [number(apart[0]), number(apart[0]), number(apart[1])]
    for begin, end in zip(turns_of(one, other), turns_of(one, other)[1:]):
        lines = [(Fraction(1), Fraction(1))]
        for side in range(3):
            low, high = [(spot(one, m)[side] - spot(other, m)[side]) / sizes[side] for m in (begin, end)]
            lines += [(low, high), (-low, -high)]
        for (a, b), (c, d) in itertools.combinations(lines, 2):
            if b - a != d - c:
                share = (c - a) / ((b - a) - (d - c))
                if 0 < share < 1:
                    told.add(begin + share * (end - begin))
    return sorted(told)


class GapAt(Base):
    def test_greatest_of_three(self):
        one = plan_of((0, 0, 0, 0), (10, 0, 0, 0))
        for spot_there, wanted in (((1, 0, 0), "1/2"), ((-1, 0, 0), "1/2"), ((0, 3, 0), "3/2"), ((0, -3, 0), "3/2"),
                                   ((0, 0, 3), "3"), ((0, 0, -3), "3"), ((1, 3, 1), "3/2"), ((4, 3, 1), "2"),
                                   ((1, -3, 2), "2"), ((0, 0, 0), "0"), ((2, 0, 0), "1")):
            other = plan_of((0,) + spot_there, (10,) + spot_there)
            self.same(gap_at(one, other, APART, f(5)), f(wanted))
            self.same(gap_at(other, one, list(APART), f(5)), f(wanted))

    def test_not_both_there(self):
        one = plan_of((0, 0, 0, 0), (4, 4, 0, 0))
        other = plan_of((2, 0, 0, 0), (6, 4, 0, 0))
        for m in ("-1", "0", "1", "199/100", "4", "5", "6", "7"):
            self.same(gap_at(one, other, APART, f(m)), None)
            self.same(gap_at(other, one, APART, f(m)), None)
        self.same(gap_at(one, other, APART, f(2)), f(1))
        self.same(gap_at(one, other, APART, f("399/100")), f(1))

    def test_never_both_there(self):
        one = plan_of((0, 0, 0, 0), (4, 4, 0, 0))
        for other in (plan_of((4, 4, 0, 0), (6, 4, 0, 0)), plan_of((5, 4, 0, 0), (6, 4, 0, 0))):
            for m in range(-1, 8):
                self.same(gap_at(one, other, APART, f(m)), None)
                self.same(gap_at(other, one, APART, f(m)), None)

    def test_many(self):
        for one, other, apart in pairs(120):
            span = span_of(one, other)
            for m in [Fraction(at, 3) for at in range(-21, 45)]:
                there = span is not None and span[0] <= m < span[1]
                self.same(gap_at(one, other, apart, f(m)), f(gap_of(one, other, apart, m)) if there else None)


class Nearest(Base):
    def test_ordinary(self):
        one = plan_of((0, 0, 0, 0), (8, 8, 0, 0))
        other = plan_of((0, 8, 1, 0), (8, 0, 1, 0))
        self.same(nearest(one, other, APART), (f("1/2"), f("7/2")))
        self.same(nearest(other, one, APART), (f("1/2"), f("7/2")))

    def test_never_both_there(self):
        one = plan_of((0, 0, 0, 0), (4, 4, 0, 0))
        for other in (plan_of((4, 4, 0, 0), (6, 4, 0, 0)), plan_of((5, 4, 0, 0), (6, 4, 0, 0))):
            self.same(nearest(one, other, APART), None)
            self.same(nearest(other, one, APART), None)

    def test_the_end_counts(self):
        one = plan_of((0, 0, 0, 0), (4, 4, 0, 0))
        other = plan_of((1, 8, 0, 0), (6, 3, 0, 0))
        self.same(nearest(one, other, APART), (f("1/2"), f(4)))
        # They come together just when one is there no more.
        other = plan_of((0, 8, 0, 0), (4, 4, 0, 0))
        self.same(nearest(one, other, APART), (f(0), f(4)))

    def test_the_begin(self):
        one = plan_of((0, 0, 0, 0), (4, 4, 0, 0))
        other = plan_of((-2, 0, 1, 0), (6, -8, 1, 0))
        self.same(nearest(one, other, APART), (f(1), f(0)))

    def test_least_moment_of_several(self):
        # As far apart all the time.
        one = plan_of((0, 0, 0, 0), (4, 4, 0, 0))
        other = plan_of((0, 0, 3, 0), (4, 4, 3, 0))
        self.same(nearest(one, other, APART), (f("3/2"), f(0)))
        # From far, then as far apart for a while, then far again.
        other = plan_of((0, 4, 3, 0), (4, 0, 3, 0))
        self.same(nearest(one, other, APART), (f("3/2"), f("1/2")))
        # Twice as near, at two corners.
        one = plan_of((0, 0, 0, 0), (9, 0, 0, 0))
        other = plan_of((0, 9, 0, 0), (2, 3, 0, 0), (4, 9, 0, 0), (6, 3, 0, 0), (9, 9, 0, 0))
        self.same(nearest(one, other, APART), (f("3/2"), f(2)))
        self.same(nearest(listed(one), listed(other), list(APART)), (f("3/2"), f(2)))

    def test_many(self):
        for one, other, apart in pairs(400):
            if span_of(one, other) is None:
                self.same(nearest(one, other, apart), None)
                continue
            gap, m = min((gap_of(one, other, apart, m), m) for m in critical(one, other, apart))
            self.same(nearest(one, other, apart), (f(gap), f(m)))
            self.same(nearest(other, one, apart), (f(gap), f(m)))

    def test_numbers_of_hundreds_of_figures(self):
        rnd = random.Random(1)

        def big():
            return Fraction(rnd.randint(-10 ** 400, 10 ** 400), rnd.randint(1, 10 ** 300))

        one, other = [plan_of(*[(m, big(), big(), big()) for m in sorted([-at, big(), at])])
                      for at in (Fraction(10 ** 401), Fraction(10 ** 402))]
        apart = (f(abs(big())), f(abs(big())))
        gap, m = min((gap_of(one, other, apart, m), m) for m in critical(one, other, apart))
        self.same(nearest(one, other, apart), (f(gap), f(m)))


class TooNear(Base):
    def test_ordinary(self):
        one = plan_of((0, 0, 0, 0), (8, 8, 0, 0))
        other = plan_of((0, 8, 1, 0), (8, 0, 1, 0))
        self.same(too_near(one, other, APART), ((f(3), 0, f(5)),))
        self.same(too_near(listed(one), listed(other), list(APART)), ((f(3), 0, f(5)),))

    def test_never_both_there(self):
        one = plan_of((0, 0, 0, 0), (4, 4, 0, 0))
        for other in (plan_of((4, 4, 0, 0), (6, 4, 0, 0)), plan_of((5, 4, 0, 0), (6, 4, 0, 0))):
            self.same(too_near(one, other, APART), ())
            self.same(too_near(other, one, APART), ())

    def test_all_the_time(self):
        one = plan_of((0, 0, 0, 0), (2, 1, 0, 0), (4, 4, 0, 0))
        self.same(too_near(one, one, APART), ((f(0), 1, f(4)),))
        self.same(too_near(one, plan_of((1, 1, 0, 0), (3, 1, 0, 0)), APART), ((f(1), 1, f(3)),))

    def test_just_the_distance_apart(self):
        one = plan_of((0, 0, 0, 0), (4, 4, 0, 0))
        for off in ((2, 0, 0), (-2, 0, 0), (0, 2, 0), (0, -2, 0), (0, 0, 1), (0, 0, -1)):
            other = plan_of((0,) + off, (4, 4 + off[0], off[1], off[2]))
            self.same(too_near(one, other, APART), ())
            near = [Fraction(99 * value, 100) for value in off]
            other = plan_of([0] + near, [4, 4 + near[0], near[1], near[2]])
            self.same(too_near(one, other, APART), ((f(0), 1, f(4)),))

    def test_the_end_does_not_count(self):
        one = plan_of((0, 0, 0, 0), (4, 4, 0, 0))
        # Just the distance apart where they end to be.
        self.same(too_near(one, plan_of((0, 10, 0, 0), (4, 6, 0, 0)), APART), ())
        self.same(too_near(one, plan_of((0, 8, 0, 0), (4, 4, 0, 0)), APART), ((f(3), 0, f(4)),))

    def test_the_begin(self):
        one = plan_of((0, 0, 0, 0), (4, 4, 0, 0))
        self.same(too_near(one, plan_of((0, 2, 0, 0), (4, 2, 0, 0)), APART), ((f(0), 0, f(4)),))
        self.same(too_near(one, plan_of((0, 1, 0, 0), (4, -3, 0, 0)), APART), ((f(0), 1, f("3/2")),))
        self.same(too_near(one, plan_of((0, 2, 0, 0), (4, 9, 0, 0)), APART), ())

    def test_apart_at_one_moment_alone(self):
        one = plan_of((0, 0, 0, 0), (4, 0, 0, 0))
        other = plan_of((0, 0, 0, 0), (2, 2, 0, 0), (4, 0, 0, 0))
        self.same(too_near(one, other, APART), ((f(0), 1, f(2)), (f(2), 0, f(4))))

    def test_near_on_over_a_corner(self):
        one = plan_of((0, 0, 0, 0), (4, 0, 0, 0))
        other = plan_of((0, 3, 0, 0), (2, 1, 0, 0), (4, 3, 0, 0))
        self.same(too_near(one, other, APART), ((f(1), 0, f(3)),))

    def test_several(self):
        one = plan_of((0, 0, 0, 0), (9, 0, 0, 0))
        other = plan_of((0, 4, 0, 0), (2, 0, 0, 0), (4, 4, 0, 0), (6, 0, 0, 0), (9, 6, 0, 0))
        self.same(too_near(one, other, APART), ((f(1), 0, f(3)), (f(5), 0, f(7))))

    def test_many(self):
        several = 0
        for one, other, apart in pairs(400):
            answer = too_near(one, other, apart)
            self.same(too_near(other, one, apart), answer)
            span = span_of(one, other)
            if span is None:
                self.same(answer, ())
                continue
            several += len(answer) > 1
            for former, latter in zip(answer, answer[1:]):
                low, high = number(former[2]), number(latter[0])
                self.assertTrue(low < high or (low == high and latter[1] == 0))
            moments = critical(one, other, apart)
            moments += [(low + high) / 2 for low, high in zip(moments, moments[1:])]
            for m in moments + [span[0] - 1, span[1] + 1]:
                wanted = span[0] <= m < span[1] and gap_of(one, other, apart, m) < 1
                held = [(number(b) < m or (number(b) == m and h == 1)) and m < number(e) for b, h, e in answer]
                self.same(any(held), wanted)
        self.assertGreater(several, 10)


class HandedIn(Base):
    def test_is_as_it_was_and_told_again(self):
        for one, other, apart in pairs(30):
            things = [listed(one), listed(other), list(apart)]
            were = copy.deepcopy(things)
            asks = (lambda: gap_at(*things, f(1)), lambda: nearest(*things), lambda: too_near(*things))
            answers = [ask() for ask in asks]
            self.same(things, were)
            self.same([ask() for ask in asks], answers)
            self.same(answers, [gap_at(one, other, apart, f(1)), nearest(one, other, apart),
                                too_near(one, other, apart)])


if __name__ == "__main__":
    unittest.main()
