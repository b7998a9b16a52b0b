import copy
import random
import unittest

from helper import Base, f, listed, number, plan_of, some_plan, spot
from skylanes.plans import look_plan
from skylanes.shapes import by_shapes, shaped

PLAN = plan_of((0, 0, 0, 0), (2, 4, 0, 2), (4, 4, -6, 2), (6, 0, 0, 0))
LINE = plan_of((0, 0, 0, 0), (4, 8, 0, 0))
SIX = {"east": (1, 0, 0), "west": (-1, 0, 0), "north": (0, 1, 0), "south": (0, -1, 0),
       "up": (0, 0, 1), "down": (0, 0, -1)}
WORDS = ("wait", "slow") + tuple(SIX)


def wanted_by(plan, word, amount, now):
    """What the document's words make of a plan, in Python's own fractions."""
    corners = [tuple(number(value) for value in corner) for corner in plan]
    if amount == 0 or now >= corners[-1][0]:
        return plan
    begin = max(now, corners[0][0])
    if begin not in [corner[0] for corner in corners]:
        corners = sorted(corners + [(begin,) + spot(plan, begin)])
    if word == "wait":
        told = [c for c in corners if c[0] < begin]
        if begin > corners[0][0]:
            told += [c for c in corners if c[0] == begin]
        told += [(c[0] + amount,) + c[1:] for c in corners if c[0] >= begin]
    elif word == "slow":
        told = [c if c[0] <= begin else (begin + (1 + amount) * (c[0] - begin),) + c[1:] for c in corners]
    else:
        moved = [c[0] > begin and c != corners[-1] for c in corners]
        if not any(moved):
            return None
        told = [tuple([c[0]] + [a + b * amount for a, b in zip(c[1:], SIX[word])]) if put else c
                for c, put in zip(corners, moved)]
    return plan_of(*told)


class Shaped(Base):
    def test_amount_of_nought(self):
        for word in WORDS:
            for now in (-1, 0, 1, 2, 5, 6, 9):
                self.same(shaped(PLAN, (word, f(0)), f(now)), PLAN)
                self.same(shaped(listed(PLAN), [word, f(0)], f(now)), PLAN)
            self.same(shaped(LINE, (word, f(0)), f(1)), LINE)

    def test_now_at_the_last_moment_or_behind(self):
        for word in WORDS:
            for now in (f(6), f("13/2"), f(100)):
                self.same(shaped(PLAN, (word, f(3)), now), PLAN)
                self.same(shaped(listed(PLAN), (word, f(3)), now), PLAN)
            self.same(shaped(LINE, (word, f(3)), f(4)), LINE)

    def test_wait_ahead_of_the_plan(self):
        wanted = plan_of((3, 0, 0, 0), (5, 4, 0, 2), (7, 4, -6, 2), (9, 0, 0, 0))
        self.same(shaped(PLAN, ("wait", f(3)), f(-5)), wanted)
        self.same(shaped(PLAN, ("wait", f(3)), f(0)), wanted)

    def test_wait_on_the_way(self):
        self.same(shaped(PLAN, ("wait", f(3)), f(2)),
                  plan_of((0, 0, 0, 0), (2, 4, 0, 2), (5, 4, 0, 2), (7, 4, -6, 2), (9, 0, 0, 0)))
        self.same(shaped(PLAN, ("wait", f("1/2")), f(1)),
                  plan_of((0, 0, 0, 0), (1, 2, 0, 1), ("3/2", 2, 0, 1), ("5/2", 4, 0, 2), ("9/2", 4, -6, 2),
                          ("13/2", 0, 0, 0)))
        self.same(shaped(PLAN, ("wait", f(1)), f(5)),
                  PLAN[:3] + plan_of((5, 2, -3, 1), (6, 2, -3, 1), (7, 0, 0, 0)))

    def test_slow_ahead_of_the_plan(self):
        wanted = plan_of((0, 0, 0, 0), (3, 4, 0, 2), (6, 4, -6, 2), (9, 0, 0, 0))
        self.same(shaped(PLAN, ("slow", f("1/2")), f(-1)), wanted)
        self.same(shaped(PLAN, ("slow", f("1/2")), f(0)), wanted)

    def test_slow_on_the_way(self):
        self.same(shaped(PLAN, ("slow", f(1)), f(2)),
                  plan_of((0, 0, 0, 0), (2, 4, 0, 2), (6, 4, -6, 2), (10, 0, 0, 0)))
        self.same(shaped(PLAN, ("slow", f(1)), f(3)),
                  plan_of((0, 0, 0, 0), (2, 4, 0, 2), (3, 4, -3, 2), (5, 4, -6, 2), (9, 0, 0, 0)))

    def test_the_six_ahead_of_the_plan(self):
        for word, (x, y, z) in SIX.items():
            wanted = plan_of((0, 0, 0, 0), (2, 4 + 3 * x, 3 * y, 2 + 3 * z), (4, 4 + 3 * x, -6 + 3 * y, 2 + 3 * z),
                             (6, 0, 0, 0))
            self.same(shaped(PLAN, (word, f(3)), f(-1)), wanted)
            self.same(shaped(PLAN, (word, f(3)), f(0)), wanted)

    def test_the_six_on_the_way(self):
        for word, (x, y, z) in SIX.items():
            wanted = PLAN[:2] + plan_of((4, 4 + 3 * x, -6 + 3 * y, 2 + 3 * z), (6, 0, 0, 0))
            self.same(shaped(PLAN, (word, f(3)), f(2)), wanted)
            self.same(shaped(PLAN, (word, f(3)), f(3)), PLAN[:2] + plan_of((3, 4, -3, 2)) + wanted[2:])

    def test_the_six_where_there_is_no_such_corner(self):
        for word in SIX:
            for now in (f(4), f("9/2"), f("599/100")):
                self.same(shaped(PLAN, (word, f(3)), now), None)
            for now in (f(-1), f(0), f(1)):
                self.same(shaped(LINE, (word, f(3)), now), None)

    def test_corners_through_which_it_goes_straight_count(self):
        plan = plan_of((0, 0, 0, 0), (1, 2, 0, 0), (2, 4, 0, 0), (4, 8, 0, 0))
        self.same(shaped(plan, ("north", f(1)), f(1)), plan_of((0, 0, 0, 0), (1, 2, 0, 0), (2, 4, 1, 0), (4, 8, 0, 0)))
        self.same(shaped(plan, ("wait", f(1)), f(-1)), plan_of((1, 0, 0, 0), (2, 2, 0, 0), (3, 4, 0, 0), (5, 8, 0, 0)))
        self.same(shaped(plan, ("slow", f(1)), f(2)), plan_of((0, 0, 0, 0), (1, 2, 0, 0), (2, 4, 0, 0), (6, 8, 0, 0)))

    def test_as_lists(self):
        for word in WORDS:
            for now in range(-1, 6):
                self.same(shaped(listed(PLAN), [word, f(2)], f(now)), shaped(PLAN, (word, f(2)), f(now)))

    def test_many(self):
        for seed in range(300):
            rnd = random.Random(seed)
            plan = some_plan(rnd)
            now, amount = f(rnd.randint(-16, 28), 2), f(rnd.randint(0, 5), 2)
            for word in WORDS:
                answer = shaped(plan, (word, amount), now)
                self.same(answer, wanted_by(plan, word, number(amount), number(now)))
                if answer is not None:
                    self.same(look_plan(answer), answer)


class ByShapes(Base):
    def test_no_shapes(self):
        self.same(by_shapes(PLAN, [], f(0)), PLAN)
        self.same(by_shapes(listed(PLAN), (), f(0)), PLAN)

    def test_one_behind_the_other(self):
        once = shaped(PLAN, ("wait", f(1)), f(3))
        twice = shaped(once, ("up", f(2)), f(3))
        self.same(by_shapes(PLAN, [("wait", f(1)), ("up", f(2))], f(3)), twice)
        self.same(by_shapes(listed(PLAN), [["wait", f(1)], ["up", f(2)]], f(3)), twice)
        other = shaped(shaped(PLAN, ("up", f(2)), f(3)), ("wait", f(1)), f(3))
        self.same(by_shapes(PLAN, (("up", f(2)), ("wait", f(1))), f(3)), other)
        self.assertNotEqual(twice, other)

    def test_none(self):
        self.same(by_shapes(LINE, [("up", f(1))], f(0)), None)
        self.same(by_shapes(LINE, [("up", f(1)), ("wait", f(1))], f(1)), None)
        self.same(by_shapes(LINE, [("up", f(0)), ("slow", f(1)), ("east", f(1))], f(1)), None)
        # A wait on the way makes a corner that can be put off.
        self.same(by_shapes(LINE, [("wait", f(1)), ("up", f(1))], f(1)),
                  plan_of((0, 0, 0, 0), (1, 2, 0, 0), (2, 2, 0, 1), (5, 8, 0, 0)))


class HandedIn(Base):
    def test_is_as_it_was_and_told_again(self):
        for word in WORDS:
            plan, shape = listed(PLAN), [word, f(2)]
            shapes = [shape, ["wait", f(1)], ["down", f(0)]]
            were = copy.deepcopy([plan, shapes])
            answers = [shaped(plan, shape, f(1)), by_shapes(plan, shapes, f(1))]
            self.same([plan, shapes], were)
            self.same([shaped(plan, shape, f(1)), by_shapes(plan, shapes, f(1))], answers)

    def test_what_is_told_is_not_changed_from_outside(self):
        for shapes in ([], [["wait", f(0)]], [["wait", f(1)]], [["up", f(1)]]):
            plan = listed(PLAN)
            answer = by_shapes(plan, shapes, f(1))
            was = copy.deepcopy(answer)
            plan[0][1] = f(77)
            plan.pop()
            self.same(answer, was)


if __name__ == "__main__":
    unittest.main()
