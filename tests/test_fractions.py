import random
import unittest
from fractions import Fraction

from helper import Base, f
from skylanes.fractions import (
    before, count_below, greater, is_part, lesser, minus, over, part, plus, rising, times, whole,
)

BIG = 10 ** 399 + 7
DEEP = 10 ** 299 + 3


def some_numbers(rnd, many):
    """Small ones, among which there are alike ones, and a few of hundreds of figures."""
    rows = [Fraction(rnd.randint(-12, 12), rnd.randint(1, 12)) for _ in range(many)]
    rows += [Fraction(rnd.randint(-10 ** 400, 10 ** 400), rnd.randint(1, 10 ** 300)) for _ in range(6)]
    return rows + [Fraction(0), Fraction(1), Fraction(-1)]


class Parts(Base):
    def test_lowest_terms(self):
        self.same(part(6, 4), (3, 2))
        self.same(part(3, 1), (3, 1))
        self.same(part(-1, 2), (-1, 2))
        self.same(part(-12, 18), (-2, 3))
        self.same(part(7, 7), (1, 1))
        self.same(part(4, 9), (4, 9))

    def test_bottom_below_nought(self):
        self.same(part(1, -2), (-1, 2))
        self.same(part(-1, -2), (1, 2))
        self.same(part(6, -4), (-3, 2))
        self.same(part(-6, -4), (3, 2))
        self.same(part(5, -1), (-5, 1))

    def test_nought_as_top(self):
        for bottom in (1, -1, 5, -5, 10 ** 300):
            self.same(part(0, bottom), (0, 1))

    def test_hundreds_of_figures(self):
        self.same(part(BIG * 6, DEEP * 4), part(BIG * 3, DEEP * 2))
        self.same(part(10 ** 400, 10 ** 300), (10 ** 100, 1))
        self.same(part(-10 ** 300, 10 ** 400), (-1, 10 ** 100))
        self.same(part(BIG * DEEP, -DEEP), (-BIG, 1))

    def test_as_python_tells_it(self):
        for top in range(-30, 31):
            for bottom in list(range(-30, 0)) + list(range(1, 31)):
                self.same(part(top, bottom), f(Fraction(top, bottom)))

    def test_whole(self):
        for n in (0, 1, -1, 7, -12, 10 ** 400):
            self.same(whole(n), (n, 1))


class Sums(Base):
    def test_ordinary(self):
        self.same(plus((1, 2), (1, 3)), (5, 6))
        self.same(minus((1, 2), (1, 3)), (1, 6))
        self.same(times((2, 3), (3, 4)), (1, 2))
        self.same(over((2, 3), (4, 3)), (1, 2))

    def test_edges(self):
        self.same(plus((1, 2), (-1, 2)), (0, 1))
        self.same(plus((1, 6), (1, 3)), (1, 2))
        self.same(minus((5, 7), (5, 7)), (0, 1))
        self.same(times((0, 1), (-5, 7)), (0, 1))
        self.same(times((-5, 7), (0, 1)), (0, 1))
        self.same(over((0, 1), (-5, 7)), (0, 1))
        self.same(over((1, 2), (-1, 3)), (-3, 2))
        self.same(over((-1, 2), (-1, 3)), (3, 2))

    def test_as_python_tells_them(self):
        numbers = some_numbers(random.Random(3), 24)
        for one in numbers:
            for other in numbers:
                self.same(plus(f(one), f(other)), f(one + other))
                self.same(minus(f(one), f(other)), f(one - other))
                self.same(times(f(one), f(other)), f(one * other))
                if other != 0:
                    self.same(over(f(one), f(other)), f(one / other))

    def test_what_was_told_is_handed_in_again(self):
        number = (1, 2)
        wanted = Fraction(1, 2)
        for _ in range(8):
            number = plus(times(number, number), (BIG, DEEP))
            wanted = wanted * wanted + Fraction(BIG, DEEP)
        self.same(number, f(wanted))


class Order(Base):
    def test_before(self):
        self.same(before((1, 3), (1, 2)), True)
        self.same(before((1, 2), (1, 3)), False)
        self.same(before((1, 2), (1, 2)), False)
        self.same(before((-1, 2), (-1, 3)), True)
        self.same(before((-1, 1), (0, 1)), True)
        self.same(before((BIG, DEEP), (BIG + 1, DEEP)), True)
        self.same(before((BIG + 1, DEEP), (BIG, DEEP)), False)

    def test_lesser_and_greater(self):
        self.same(lesser((1, 3), (1, 2)), (1, 3))
        self.same(lesser((1, 2), (1, 3)), (1, 3))
        self.same(greater((1, 3), (1, 2)), (1, 2))
        self.same(greater((1, 2), (1, 3)), (1, 2))
        self.same(lesser((1, 2), (1, 2)), (1, 2))
        self.same(greater((1, 2), (1, 2)), (1, 2))

    def test_as_python_tells_it(self):
        numbers = some_numbers(random.Random(4), 24)
        for one in numbers:
            for other in numbers:
                self.same(before(f(one), f(other)), one < other)
                self.same(lesser(f(one), f(other)), f(min(one, other)))
                self.same(greater(f(one), f(other)), f(max(one, other)))

    def test_rising(self):
        for seed in range(20):
            numbers = some_numbers(random.Random(seed), 20)
            answer = rising([f(number) for number in numbers + numbers[:5]])
            self.same(answer, [f(number) for number in sorted(set(numbers))])
            for number in numbers:
                wanted = len([other for other in set(numbers) if other < number])
                self.same(count_below(answer, f(number)), wanted)
        self.same(rising([]), [])


class IsPart(Base):
    def test_fractions(self):
        for thing in ((3, 1), (-1, 2), (0, 1), [3, 1], [-1, 2], [0, 1], (BIG, DEEP * BIG + 1), (10 ** 400, 1)):
            self.same(is_part(thing), True)

    def test_not_in_lowest_terms(self):
        for thing in ((2, 4), (-2, 4), (0, 2), [6, 3], [0, 7], (BIG * 3, 3), (10 ** 400, 10 ** 300)):
            self.same(is_part(thing), False)

    def test_bottom_of_nought_or_below(self):
        for thing in ((1, 0), (0, 0), (-1, 0), (1, -2), (-1, -2), (0, -1), [1, 0], [1, -1]):
            self.same(is_part(thing), False)

    def test_true_and_false_are_no_numbers(self):
        for thing in ((True, 1), (1, True), (False, 1), (True, True), (True, 2), [False, True], True, False):
            self.same(is_part(thing), False)

    def test_other_lengths(self):
        for thing in ((), [], (1,), [1], (1, 2, 3), [1, 2, 3], (1, 1, 1), ((1, 2),)):
            self.same(is_part(thing), False)

    def test_other_things(self):
        deep = (1, 2)
        for _ in range(30):
            deep = [deep, 1]
        for thing in (None, "", "12", "1/2", 1, 0, -3, ("1", "2"), ("1", 2), (1, "2"), (None, 1), (1, None),
                      ((1, 2), 3), (1, (2, 3)), ((1, 1), (1, 1)), [[1], [2]], ([], ()), deep):
            self.same(is_part(thing), False)

    def test_what_was_handed_in_is_as_it_was(self):
        thing = [4, 6]
        is_part(thing)
        self.same(thing, [4, 6])

    def test_all_that_is_made_is_one(self):
        numbers = [f(number) for number in some_numbers(random.Random(5), 10)]
        for one in numbers:
            for other in numbers:
                for answer in (plus(one, other), minus(one, other), times(one, other)):
                    self.same(is_part(answer), True)


if __name__ == "__main__":
    unittest.main()
