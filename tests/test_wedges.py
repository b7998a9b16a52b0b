import random
import unittest
from fractions import Fraction

from helper import Base, f, flights, listed, number, plan_of, twelve
from skylanes.wedges import STRICT, form_of, wedges_of


class Wedges(Base):
    def test_which_are_above_nought(self):
        self.same([at for at in range(12) if STRICT[at] == 0], [0, 2, 4, 5])
        self.same(len(STRICT), 12)

    def test_by_i_and_then_j(self):
        one = (plan_of((0, 0, 0, 0), (1, 0, 0, 0), (2, 0, 0, 0)), (f(0), f(0), f(0)))
        other = (plan_of((0, 0, 0, 0), (1, 0, 0, 0), (3, 0, 0, 0), (4, 0, 0, 0)), (f(0), f(0), f(0)))
        rows = [(i, j) for i, j, wedge in wedges_of(one, other, (f(1), f(1)))]
        self.same(rows, [(0, 0), (0, 1), (0, 2), (1, 0), (1, 1), (1, 2)])

    def test_the_twelve_numbers(self):
        rnd = random.Random(1)
        for one, other, apart in flights(60):
            s, t = Fraction(rnd.randint(-20, 20), 3), Fraction(rnd.randint(-20, 20), 3)
            for i, j, wedge in wedges_of(one, other, apart):
                forms = [form_of(wedge, at) for at in range(12)]
                answers = [number(form[0]) + number(form[1]) * s + number(form[2]) * t for form in forms]
                self.assertEqual(answers, twelve(one, other, apart, i, j, s, t))
            told = [[form_of(wedge, at) for at in range(12)] for i, j, wedge in wedges_of(one, other, apart)]
            same = [[form_of(wedge, at) for at in range(12)]
                    for i, j, wedge in wedges_of(listed(one), listed(other), list(apart))]
            self.same(same, told)


if __name__ == "__main__":
    unittest.main()
