import copy
import random
import unittest
from fractions import Fraction

from helper import Base, all_listed, f, listed, number, plan_of, some_plan, spot
from skylanes.errors import BadPlan, LaneError
from skylanes.plans import fewest, later, look_plan, part_of, put_off, same_flights, spot_at

PLAN = plan_of((0, 0, 0, 0), (2, 4, 0, 2), (4, 4, -6, 2))


class LookPlan(Base):
    def refused(self, plan, place):
        with self.assertRaises(BadPlan) as caught:
            look_plan(plan)
        self.same(caught.exception.place, place)
        self.assertIsInstance(caught.exception, LaneError)

    def test_a_plan_is_told_of_tuples(self):
        self.same(look_plan(PLAN), PLAN)
        self.same(look_plan(list(PLAN)), PLAN)
        self.same(look_plan(listed(PLAN)), PLAN)
        self.same(look_plan(all_listed(PLAN)), PLAN)
        self.same(look_plan(tuple(all_listed(PLAN))), PLAN)
        self.same(look_plan(PLAN[:2]), PLAN[:2])

    def test_twelve_corners_of_hundreds_of_figures(self):
        bottom = 10 ** 299 + 7
        plan = plan_of(*[(Fraction(10 ** 399 + at, bottom), Fraction(at - 10 ** 399, bottom), 0, at)
                         for at in range(12)])
        self.same(look_plan(all_listed(plan)), plan)

    def test_fewer_than_two(self):
        self.refused([], 0)
        self.refused((), 0)
        self.refused([PLAN[0]], 1)
        self.refused((all_listed(PLAN[1]),), 1)

    def test_one_that_is_faulty_itself(self):
        self.refused([None], 0)
        self.refused([PLAN[0][:3]], 0)

    def test_first_faulty_corner(self):
        wrongs = (
            None, 0, 1, True, "abcd", "", (), [], PLAN[0][:3], PLAN[0] + ((0, 1),), ((9, 1), 0, 0, 0),
            ((9, 1), (0, 1), (0, 1), None), ((9, 1), (0, 1), (0, 1), (0, 2)), ((18, 2), (0, 1), (0, 1), (0, 1)),
            ((9, 1), (0, 1), (True, 1), (0, 1)), ((9, 1), (0, 1), (0, True), (0, 1)), ((9, 1), (1, 0), (0, 1), (0, 1)),
            ((9, 1), (1, -1), (0, 1), (0, 1)), ["9", "0", "0", "0"], [[9, 1], [0, 1], [0, 1], [[0], 1]],
            {"a": 1, "b": 2, "c": 3, "d": 4}, (PLAN[0],), PLAN[0] + PLAN[1], b"abcd",
        )
        for wrong in wrongs:
            for place in range(4):
                plan = list(plan_of((0, 0, 0, 0), (2, 4, 0, 2), (4, 4, -6, 2)))
                plan.insert(place, wrong)
                self.refused(plan, place)
                self.refused(plan + [None], place)
            self.refused([wrong, wrong], 0)

    def test_moments_that_do_not_rise(self):
        self.refused(plan_of((0, 0, 0, 0), (0, 1, 1, 1)), 1)
        self.refused(plan_of((0, 0, 0, 0), ("-1/2", 1, 1, 1)), 1)
        self.refused(plan_of((0, 0, 0, 0), (2, 1, 1, 1), (1, 1, 1, 1), (3, 0, 0, 0)), 2)
        self.refused(plan_of((0, 0, 0, 0), (2, 1, 1, 1), (2, 1, 1, 1)), 2)
        # The one ahead counts, not the first one.
        self.refused(plan_of((0, 0, 0, 0), (5, 1, 1, 1), (3, 1, 1, 1), (4, 1, 1, 1)), 2)

    def test_the_first_of_several_faults(self):
        self.refused(plan_of((0, 0, 0, 0), (0, 1, 1, 1)) + (None,), 1)
        self.refused((PLAN[0], None, PLAN[0]), 1)
        self.refused((None, PLAN[1], PLAN[0]), 0)

    def test_what_was_handed_in_is_as_it_was(self):
        plan = all_listed(PLAN)
        answer = look_plan(plan)
        self.same(plan, all_listed(PLAN))
        plan[0][0][0] = 7
        plan.pop()
        self.same(answer, PLAN)


class SpotAt(Base):
    def test_at_each_corner(self):
        for corner in PLAN:
            self.same(spot_at(PLAN, corner[0]), corner[1:])

    def test_between(self):
        self.same(spot_at(PLAN, f(1)), (f(2), f(0), f(1)))
        self.same(spot_at(PLAN, f("1/3")), (f("2/3"), f(0), f("1/3")))
        self.same(spot_at(PLAN, f("7/2")), (f(4), f("-9/2"), f(2)))

    def test_at_the_last_moment(self):
        self.same(spot_at(PLAN, f(4)), (f(4), f(-6), f(2)))

    def test_ahead_and_behind(self):
        for m in ("-1", "-1/1000", "4001/1000", "9"):
            self.same(spot_at(PLAN, f(m)), None)

    def test_as_lists(self):
        for m in range(-1, 10):
            self.same(spot_at(listed(PLAN), f(m, 2)), spot_at(PLAN, f(m, 2)))

    def test_many(self):
        for seed in range(60):
            plan = some_plan(random.Random(seed))
            for m in range(-30, 60):
                wanted = spot(plan, Fraction(m, 4))
                self.same(spot_at(plan, f(m, 4)), None if wanted is None else tuple(f(x) for x in wanted))


class LaterAndPutOff(Base):
    def test_later(self):
        self.same(later(PLAN, f("1/2")), plan_of(("1/2", 0, 0, 0), ("5/2", 4, 0, 2), ("9/2", 4, -6, 2)))
        self.same(later(PLAN, f(0)), PLAN)

    def test_later_by_below_nought(self):
        self.same(later(PLAN, f(-3)), plan_of((-3, 0, 0, 0), (-1, 4, 0, 2), (1, 4, -6, 2)))

    def test_put_off(self):
        self.same(put_off(PLAN, f(1), f(-2), f("1/2")),
                  plan_of((0, 1, -2, "1/2"), (2, 5, -2, "5/2"), (4, 5, -8, "5/2")))
        self.same(put_off(PLAN, f(0), f(0), f(0)), PLAN)

    def test_as_lists(self):
        self.same(later(listed(PLAN), f(1)), later(PLAN, f(1)))
        self.same(later(listed(PLAN), f(0)), PLAN)
        self.same(put_off(listed(PLAN), f(1), f(2), f(3)), put_off(PLAN, f(1), f(2), f(3)))
        self.same(put_off(listed(PLAN), f(0), f(0), f(0)), PLAN)


class PartOf(Base):
    def test_all_of_it(self):
        for begin, end in ((0, 4), (-1, 5), (-1, 4), (0, 9)):
            self.same(part_of(PLAN, f(begin), f(end)), PLAN)
            self.same(part_of(listed(PLAN), f(begin), f(end)), PLAN)

    def test_between_corners(self):
        self.same(part_of(PLAN, f(1), f(3)), plan_of((1, 2, 0, 1), (2, 4, 0, 2), (3, 4, -3, 2)))
        self.same(part_of(PLAN, f("1/2"), f(1)), plan_of(("1/2", 1, 0, "1/2"), (1, 2, 0, 1)))

    def test_at_corners(self):
        self.same(part_of(PLAN, f(0), f(2)), PLAN[:2])
        self.same(part_of(PLAN, f(2), f(4)), PLAN[1:])
        self.same(part_of(PLAN, f(2), f(9)), PLAN[1:])
        self.same(part_of(PLAN, f(-9), f(2)), PLAN[:2])
        self.same(part_of(PLAN, f(2), f(3)), plan_of((2, 4, 0, 2), (3, 4, -3, 2)))
        self.same(part_of(PLAN, f(1), f(2)), plan_of((1, 2, 0, 1), (2, 4, 0, 2)))

    def test_none(self):
        for begin, end in ((4, 9), (5, 9), (-3, 0), (-3, -1), (2, 2), (3, 1), (0, 0), (4, 4), (9, -9)):
            self.same(part_of(PLAN, f(begin), f(end)), None)

    def test_many(self):
        for seed in range(40):
            rnd = random.Random(seed)
            plan = some_plan(rnd)
            begin, end = Fraction(rnd.randint(-16, 30), 2), Fraction(rnd.randint(-16, 30), 2)
            answer = part_of(plan, f(begin), f(end))
            low, high = max(begin, number(plan[0][0])), min(end, number(plan[-1][0]))
            if low >= high:
                self.same(answer, None)
                continue
            moments = [low] + [number(c[0]) for c in plan if low < number(c[0]) < high] + [high]
            self.same(answer, tuple((f(m),) + tuple(f(x) for x in spot(plan, m)) for m in moments))


class Fewest(Base):
    def test_straight_and_even_corners_go(self):
        plan = plan_of((0, 0, 0, 0), (1, 2, -1, 3), (3, 6, -3, 9), (4, 8, -4, 12))
        self.same(fewest(plan), (plan[0], plan[3]))
        self.same(fewest(listed(plan)), (plan[0], plan[3]))

    def test_where_it_stays(self):
        plan = plan_of((0, 1, 1, 1), (1, 1, 1, 1), (5, 1, 1, 1), (6, 2, 1, 1))
        self.same(fewest(plan), (plan[0], plan[2], plan[3]))

    def test_only_the_way_changes(self):
        for plan in (plan_of((0, 0, 0, 0), (1, 1, 0, 0), (2, 1, 1, 0)),
                     plan_of((0, 0, 0, 0), (1, 1, 0, 0), (2, 0, 0, 0)),
                     plan_of((0, 0, 0, 0), (1, 0, 0, 2), (2, 0, 2, 2)),
                     plan_of((0, 0, 0, 0), (1, 1, 1, 1), (2, 2, 2, 0))):
            self.same(fewest(plan), plan)

    def test_only_the_speed_changes(self):
        for plan in (plan_of((0, 0, 0, 0), (1, 1, 0, 0), (2, 3, 0, 0)),
                     plan_of((0, 0, 0, 0), (1, 0, 1, 0), (3, 0, 2, 0)),
                     plan_of((0, 0, 0, 0), (1, 0, 0, 1), (2, 0, 0, 1)),
                     plan_of((0, 0, 0, 0), (1, 0, 0, 0), (2, 0, 0, 1))):
            self.same(fewest(plan), plan)

    def test_two_corners(self):
        plan = plan_of((0, 0, 0, 0), (1, 0, 0, 0))
        self.same(fewest(plan), plan)
        self.same(fewest(listed(plan)), plan)

    def test_some_go_and_some_stay(self):
        plan = plan_of((0, 0, 0, 0), (1, 1, 0, 0), (2, 2, 0, 0), (3, 2, 1, 0), (4, 2, 2, 0), (6, 2, 4, 0))
        self.same(fewest(plan), (plan[0], plan[2], plan[5]))

    def test_corners_put_in_go_again(self):
        for seed in range(60):
            rnd = random.Random(seed)
            plan = fewest(some_plan(rnd))
            moments = {number(c[0]) for c in plan}
            first, last = min(moments), max(moments)
            moments |= {first + (last - first) * Fraction(rnd.randint(1, 11), 12) for _ in range(4)}
            fuller = tuple((f(m),) + tuple(f(x) for x in spot(plan, m)) for m in sorted(moments))
            self.same(fewest(fuller), plan)
            self.same(fewest(plan), plan)


class SameFlights(Base):
    def test_same(self):
        one = plan_of((0, 0, 0, 0), (4, 4, 0, 0))
        self.same(same_flights(one, plan_of((0, 0, 0, 0), (1, 1, 0, 0), (4, 4, 0, 0))), True)
        self.same(same_flights(plan_of((0, 0, 0, 0), (1, 1, 0, 0), (4, 4, 0, 0)),
                               plan_of((0, 0, 0, 0), (3, 3, 0, 0), (4, 4, 0, 0))), True)
        self.same(same_flights(listed(one), one), True)
        self.same(same_flights(one, listed(one)), True)

    def test_not_the_same(self):
        one = plan_of((0, 0, 0, 0), (4, 4, 0, 0))
        for other in (plan_of((0, 0, 0, 0), (1, 2, 0, 0), (4, 4, 0, 0)), plan_of((0, 0, 0, 0), (5, 4, 0, 0)),
                      plan_of((0, 0, 0, 0), (5, 5, 0, 0)), plan_of((-1, -1, 0, 0), (4, 4, 0, 0)),
                      plan_of((0, 0, 0, 1), (4, 4, 0, 1))):
            self.same(same_flights(one, other), False)
            self.same(same_flights(other, one), False)


class HandedIn(Base):
    def test_is_as_it_was_and_told_again(self):
        for seed in range(20):
            rnd = random.Random(seed)
            one, other = listed(some_plan(rnd)), listed(some_plan(rnd))
            were = copy.deepcopy([one, other])
            asks = (lambda: look_plan(one), lambda: spot_at(one, f(1)), lambda: later(one, f(1)),
                    lambda: put_off(one, f(1), f(2), f(3)), lambda: part_of(one, f(0), f(3)),
                    lambda: fewest(one), lambda: same_flights(one, other))
            answers = [ask() for ask in asks]
            self.same([one, other], were)
            self.same([ask() for ask in asks], answers)


if __name__ == "__main__":
    unittest.main()
