import random
import unittest
from fractions import Fraction

from helper import Base, f, listed, number, plan_of, some_bounds, some_plan
from skylanes.wedges import STRICT, form_of, wedges_of


def straight(plan, at, s):
    """The spot of a moment by the straight line of a piece, whether it is in the piece or not."""
    former, latter = plan[at], plan[at + 1]
    share = (s - number(former[0])) / (number(latter[0]) - number(former[0]))
    return [number(low) + share * (number(high) - number(low)) for low, high in zip(former[1:], latter[1:])]


def twelve(one, other, apart, i, j, s, t):
    """The twelve numbers by the document's words."""
    (plan, bounds), (other_plan, other_bounds) = one, other
    told = [s - number(plan[i][0]), number(plan[i + 1][0]) - s,
            t - number(other_plan[j][0]), number(other_plan[j + 1][0]) - t,
            s - t + number(bounds[2]), t - s + number(other_bounds[2])]
    here, there = straight(plan, i, s), straight(other_plan, j, t)
    for side in range(3):
        kind = 1 if side == 2 else 0
        size = number(apart[kind]) + number(bounds[kind]) + number(other_bounds[kind])
        told += [size - (here[side] - there[side]), size + (here[side] - there[side])]
    return told


class Wedges(Base):
    def test_which_are_above_nought(self):
        self.same([at for at in range(12) if STRICT[at] == 0], [0, 2, 4, 5])
        self.same(len(STRICT), 12)

    def test_by_i_and_then_j(self):
        one = (plan_of((0, 0, 0, 0), (1, 0, 0, 0), (2, 0, 0, 0)), (f(0), f(0), f(0)))
        other = (plan_of((0, 0, 0, 0), (1, 0, 0, 0), (3, 0, 0, 0), (4, 0, 0, 0)), (f(0), f(0), f(0)))
        rows = [(i, j) for i, j, wedge in wedges_of(one, other, (f(1), f(1)))]
        self.same(rows, [(0, 0), (0, 1), (0, 2), (1, 0), (1, 1), (1, 2)])

    def test_the_twelve_numbers(self):
        for seed in range(60):
            rnd = random.Random(seed)
            one, other = (some_plan(rnd), some_bounds(rnd)), (some_plan(rnd), some_bounds(rnd))
            apart = (f(rnd.randint(1, 6), 2), f(rnd.randint(1, 6), 2))
            s, t = Fraction(rnd.randint(-20, 20), 3), Fraction(rnd.randint(-20, 20), 3)
            for i, j, wedge in wedges_of(one, other, apart):
                forms = [form_of(wedge, at) for at in range(12)]
                answers = [number(form[0]) + number(form[1]) * s + number(form[2]) * t for form in forms]
                self.assertEqual(answers, twelve(one, other, apart, i, j, s, t))
            told = [[form_of(wedge, at) for at in range(12)] for i, j, wedge in wedges_of(one, other, apart)]
            same = [[form_of(wedge, at) for at in range(12)]
                    for i, j, wedge in wedges_of(listed(one), listed(other), list(apart))]
            self.same(same, told)


if __name__ == "__main__":
    unittest.main()
