import random
import unittest
from fractions import Fraction

from helper import Base, f, number
from skylanes.planes import fault_in, placed, plane_of, range_in, value_in, without


def some_forms(rnd, many):
    """Pairs (form, strict) of two unknowns, both held between -3 and 3, and some further ones."""
    rows = [((f(3), f(1), f(0)), 0), ((f(3), f(-1), f(0)), 1), ((f(3), f(0), f(1)), 1), ((f(3), f(0), f(-1)), 0)]
    for _ in range(many):
        form = tuple(f(rnd.randint(-4, 4), rnd.choice((1, 1, 2, 3))) for _ in range(3))
        rows.append((form, rnd.randint(0, 1)))
    return rows


def sum_at(form, *values):
    return number(form[0]) + sum(number(factor) * value for factor, value in zip(form[1:], values))


def holds(rows, *values):
    return all(sum_at(form, *values) > 0 if strict else sum_at(form, *values) >= 0 for form, strict in rows)


def planes_of(rows):
    return [plane_of(form, strict, at) for at, (form, strict) in enumerate(rows)]


class Planes(Base):
    def is_fault(self, rows, fault):
        """The weights of a fault come to a sum in which nothing counts, and that never holds."""
        weights = fault[2]
        self.assertTrue(all(type(weight) is int and weight > 0 for weight in weights.values()))
        sums = [sum(weight * number(rows[at][0][place]) for at, weight in weights.items()) for place in range(3)]
        self.assertEqual(sums[1:], [0, 0])
        self.assertTrue(sums[0] < 0 or (sums[0] == 0 and any(rows[at][1] for at in weights)))

    def test_one_unknown(self):
        rows = [((f(-1), f(2)), 0), ((f(3), f(-4)), 1), ((f("1/3"), f("1/3")), 1)]
        planes = planes_of(rows)
        self.assertIsNone(fault_in(planes, 1))
        self.same(range_in(planes, 1), (f("1/2"), 1, f("3/4")))
        self.same(value_in(planes, 1), f("5/8"))

    def test_at_one_number_alone(self):
        rows = [((f(-1), f(2)), 0), ((f("1/2"), f(-1)), 0)]
        self.assertIsNone(fault_in(planes_of(rows), 1))
        self.same(value_in(planes_of(rows), 1), f("1/2"))
        for former, latter in ((0, 1), (1, 0), (1, 1)):
            strict = [(rows[0][0], former), (rows[1][0], latter)]
            self.assertIsNotNone(fault_in(planes_of(strict), 1))

    def test_strict_ones_are_tighter(self):
        rows = [((f(0), f(1)), 0), ((f(0), f(2)), 1), ((f(0), f(3)), 0), ((f(1), f(-1)), 0)]
        self.same(range_in(planes_of(rows), 1), (f(0), 0, f(1)))
        self.same(range_in(planes_of(rows[::-1]), 1), (f(0), 0, f(1)))
        self.same(range_in(planes_of([rows[0], rows[2], rows[3]]), 1), (f(0), 1, f(1)))

    def test_where_the_unknown_does_not_count(self):
        rows = [((f(0), f(1)), 0), ((f(1), f(-1)), 0)]
        for total, strict, fails in ((1, 1, False), (0, 0, False), (0, 1, True), (-1, 0, True), (-1, 1, True)):
            planes = planes_of(rows + [((f(total), f(0)), strict)])
            self.assertEqual(fault_in(planes, 1) is not None, fails)

    def test_two_unknowns(self):
        faults = points = 0
        for seed in range(800):
            rnd = random.Random(seed)
            rows = some_forms(rnd, rnd.randint(1, 7))
            planes = planes_of(rows)
            first = without(planes, 2)
            fault = fault_in(first, 1)
            if fault is not None:
                faults += 1
                self.is_fault(rows, fault)
            else:
                points += 1
                s = value_in(first, 1)
                t = value_in([placed(plane, 1, s) for plane in planes], 2)
                self.assertTrue(holds(rows, number(s), number(t)))
        self.assertGreater(min(faults, points), 100)

    def test_without_an_end_from_above(self):
        rows = [((f(-1), f(2)), 1), ((f("1/2"), f(0)), 1)]
        self.assertIsNone(fault_in(planes_of(rows), 1))
        self.same(range_in(planes_of(rows), 1), (f("1/2"), 0, None))
        self.same(range_in(planes_of([((f(-1), f(2)), 0)]), 1), (f("1/2"), 1, None))
        self.assertIsNotNone(fault_in(planes_of(rows + [((f(0), f(0)), 1)]), 1))

    def test_two_out_of_three_unknowns(self):
        # What is left by sums of at most three is what is left by all sums.
        fewer = faults = 0
        for seed in range(150):
            rnd = random.Random(seed)
            rows = [((f(0), f(0), f(0), f(1)), 0)]
            for form, strict in some_forms(rnd, rnd.randint(2, 5)):
                rows.append((form + (f(rnd.randint(-3, 3)),), strict))
            first = without(planes_of(rows), 2)
            few, many = without(first, 1, 3), without(first, 1, 99)
            fewer += len(few) < len(many)
            self.assertEqual(fault_in(few, 3) is None, fault_in(many, 3) is None)
            if fault_in(few, 3) is None:
                self.same(range_in(few, 3), range_in(many, 3))
            else:
                faults += 1
        self.assertGreater(min(fewer, faults), 20)

    def test_range_of_one_of_two(self):
        for seed in range(200):
            rnd = random.Random(seed)
            rows = some_forms(rnd, 3)
            planes = planes_of(rows)
            first = without(planes, 2)
            if fault_in(first, 1) is not None:
                continue
            least, held, greatest = range_in(first, 1)
            small = Fraction(1, 10 ** 6)
            for s, inside in ((number(least), held == 1), (number(least) - small, False),
                              (number(greatest) + small, False)):
                left = [placed(plane, 1, f(s)) for plane in planes]
                self.assertEqual(fault_in(left, 2) is None, inside)


if __name__ == "__main__":
    unittest.main()
