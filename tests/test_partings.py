import copy
import random
import unittest
from fractions import Fraction

from helper import Base, all_listed, f, listed, number, pairs, plan_of, spot
from skylanes.nearness import gap_at, too_near
from skylanes.partings import parting, shows_parting

APART = (f(2), f(1))
ONE = plan_of((0, 0, 0, 0), (4, 4, 0, 0))
# Clear of ONE: ahead of it in x at first, then above it.
ROUND = plan_of((0, 3, 0, 0), (2, 3, 0, 2), (4, 3, 0, 2))
ROUND_PAPER = ((f(0), f(1), 0, -1), (f(1), f(4), 2, -1))


def is_shown(one, other, apart, paper):
    """Whether a paper of right kinds shows what the document asks, in Python's own fractions."""
    begin = max(number(one[0][0]), number(other[0][0]))
    end = min(number(one[-1][0]), number(other[-1][0]))
    if begin >= end:
        return len(paper) == 0
    if len(paper) == 0 or number(paper[0][0]) != begin or number(paper[-1][1]) != end:
        return False
    if any(number(former[1]) != number(latter[0]) for former, latter in zip(paper, paper[1:])):
        return False
    for low, high, side, sign in paper:
        low, high = number(low), number(high)
        if low >= high:
            return False
        moments = [low, high] + [number(c[0]) for c in one + other if low < number(c[0]) < high]
        size = number(apart[0] if side < 2 else apart[1])
        if any(sign * (spot(one, m)[side] - spot(other, m)[side]) < size for m in moments):
            return False
    return True


class Parting(Base):
    def is_near(self, one, other, apart, answer):
        self.assertIs(type(answer), tuple)
        self.assertEqual((len(answer), answer[0]), (2, "near"))
        gap = gap_at(one, other, apart, answer[1])
        self.assertIsNotNone(gap)
        self.assertLess(number(gap), 1)

    def is_clear(self, one, other, apart, answer):
        self.assertIs(type(answer), tuple)
        self.assertEqual((len(answer), answer[0]), (2, "clear"))
        paper = answer[1]
        self.assertIs(type(paper), tuple)
        for row in paper:
            self.assertIs(type(row), tuple)
            self.same(row, (f(number(row[0])), f(number(row[1])), row[2], row[3]))
            self.assertTrue(type(row[2]) is int and row[2] in (0, 1, 2))
            self.assertTrue(type(row[3]) is int and row[3] in (1, -1))
        self.assertTrue(is_shown(one, other, apart, paper))
        self.same(shows_parting(one, other, apart, paper), True)
        self.same(shows_parting(one, other, apart, all_listed(paper)), True)

    def test_near(self):
        for other in (ONE, plan_of((0, 8, 0, 0), (4, 4, 0, 0)), plan_of((0, 2, 0, 0), (4, 2, 0, 0)),
                      plan_of((3, 2, 0, 0), (9, 4, 0, 0)), plan_of((0, 1, 0, 0), (4, -9, 0, 0))):
            self.is_near(ONE, other, APART, parting(ONE, other, APART))
            self.is_near(other, ONE, APART, parting(other, ONE, APART))

    def test_clear(self):
        for other in (plan_of((0, 2, 0, 0), (4, 6, 0, 0)), plan_of((0, 0, 2, 0), (4, 4, 2, 0)),
                      plan_of((0, 0, 0, 1), (4, 4, 0, 1)), plan_of((0, 10, 0, 0), (4, 6, 0, 0)),
                      plan_of((-3, 4, 0, 0), (9, 4, -4, 9)), ROUND, plan_of((0, 2, 0, 0), (1, 9, 0, 0), (9, 9, 0, 0))):
            self.is_clear(ONE, other, APART, parting(ONE, other, APART))
            self.is_clear(other, ONE, APART, parting(other, ONE, APART))

    def test_never_both_there(self):
        for other in (plan_of((4, 4, 0, 0), (6, 4, 0, 0)), plan_of((5, 4, 0, 0), (6, 4, 0, 0))):
            self.same(parting(ONE, other, APART), ("clear", ()))
            self.same(parting(other, ONE, APART), ("clear", ()))

    def test_one_row_to_the_other_at_one_moment(self):
        # At the moment 2 both x and y part them by just the distance; ahead and behind, one of both.
        one = plan_of((0, 0, 0, 0), (4, 0, 0, 0))
        other = plan_of((0, 4, 0, 0), (4, 0, 4, 0))
        answer = parting(one, other, APART)
        self.is_clear(one, other, APART, answer)
        self.same(answer[1], ((f(0), f(2), 0, -1), (f(2), f(4), 1, -1)))
        near = plan_of((0, 4, 0, 0), (4, 0, "399/100", 0))
        self.is_near(one, near, APART, parting(one, near, APART))

    def test_many(self):
        clear = 0
        for one, other, apart in pairs(600, far=6):
            answer = parting(one, other, apart)
            self.same(parting(listed(one), listed(other), list(apart)), answer)
            if too_near(one, other, apart):
                self.is_near(one, other, apart, answer)
            else:
                self.is_clear(one, other, apart, answer)
                clear += len(answer[1]) > 1
        self.assertGreater(clear, 30)


class ShowsParting(Base):
    def taken(self, paper, wanted=True, one=ONE, other=ROUND, apart=APART):
        self.same(shows_parting(one, other, apart, paper), wanted)
        self.same(shows_parting(listed(one), listed(other), list(apart), paper), wanted)

    def refused(self, paper, one=ONE, other=ROUND, apart=APART):
        self.taken(paper, False, one, other, apart)

    def with_row(self, row):
        return (ROUND_PAPER[0], row)

    def test_taken(self):
        self.taken(ROUND_PAPER)
        self.taken(all_listed(ROUND_PAPER))
        self.taken(listed(ROUND_PAPER))
        self.taken((list(ROUND_PAPER[0]), (list(f(1)), f(4), 2, -1)))
        # Rows may be parted anywhere.
        self.taken((ROUND_PAPER[0], (f(1), f(3), 2, -1), (f(3), f(4), 2, -1)))
        self.taken(((f(0), f("1/3"), 0, -1), (f("1/3"), f(1), 0, -1), ROUND_PAPER[1]))

    def test_no_paper_of_those_never_both_there(self):
        for other in (plan_of((4, 4, 0, 0), (6, 4, 0, 0)), plan_of((5, 9, 0, 0), (6, 9, 0, 0))):
            self.taken((), other=other)
            self.taken([], other=other)
            for paper in (((f(4), f(5), 0, 1),), None, False, True, 0, "", "a", ((),), (None,), [[]], ROUND_PAPER):
                self.refused(paper, other=other)

    def test_things_that_are_no_papers(self):
        deep = ROUND_PAPER
        for _ in range(26):
            deep = [deep]
        for thing in (None, True, False, 0, 1, -1, "", "clear", ("clear", ROUND_PAPER), (), [], ((),), (None,),
                      ROUND_PAPER[0], deep, ("abcd", "abcd"), (1, 2, 3, 4), ((1, 2, 3, 4),), (True,)):
            self.refused(thing)

    def test_rows_of_other_lengths(self):
        for row in ((), (f(1),), (f(1), f(4)), (f(1), f(4), 2), (f(1), f(4), 2, -1, 0), (f(1), f(4), 2, -1, None)):
            self.refused(self.with_row(row))
            self.refused(self.with_row(list(row)))

    def test_rows_of_other_things(self):
        good = (f(1), f(4), 2, -1)
        self.taken(self.with_row(good))
        for at in range(4):
            for wrong in (None, "", "1", "x", True, False, (), [], (1,), (None, 1), f("1/7"), [[1, 1], 1], -2, 3, 7):
                row = list(good)
                row[at] = wrong
                self.refused(self.with_row(row))
                self.refused(self.with_row(tuple(row)))
        for row in (None, True, 0, "abcd", [good]):
            self.refused(self.with_row(row))

    def test_true_for_one(self):
        other = plan_of((0, 9, -9, 0), (4, 9, -9, 0))
        self.taken(((f(0), f(4), 1, 1),), other=other)
        self.refused(((f(0), f(4), True, 1),), other=other)
        self.refused(((f(0), f(4), 1, True),), other=other)
        self.refused((((0, True), f(4), 1, 1),), other=other)
        self.refused((((False, 1), f(4), 1, 1),), other=other)
        self.refused(((f(0), (4, True), 1, 1),), other=other)
        other = plan_of((0, -9, 9, 0), (4, -9, 9, 0))
        self.taken(((f(0), f(4), 0, 1),), other=other)
        self.refused(((f(0), f(4), False, 1),), other=other)

    def test_fractions_not_in_lowest_terms(self):
        for begin, end in (((2, 2), f(4)), (f(1), (8, 2)), ((-1, -1), f(4)), (f(1), (4, 0)), (1, f(4)), (f(1), 4)):
            self.refused(self.with_row((begin, end, 2, -1)))
        self.refused((((0, 2), f(1), 0, -1), ROUND_PAPER[1]))

    def test_sides_and_signs(self):
        for side in (-1, 3, 5, -2):
            self.refused(((f(0), f(1), side, -1), ROUND_PAPER[1]))
            self.refused(self.with_row((f(1), f(4), side, -1)))
        for sign in (0, 2, -2, 1):
            self.refused(((f(0), f(1), 0, sign), ROUND_PAPER[1]))
            self.refused(self.with_row((f(1), f(4), 2, sign)))
        # By a sign of 9 what is too little would be enough.
        other = plan_of((0, 0, -1, 0), (4, 4, -1, 0))
        self.refused(((f(0), f(4), 1, 9),), other=other)

    def test_rows_that_do_not_meet(self):
        # So far apart that each row by itself holds.
        other = plan_of((-5, 99, 0, 0), (9, 99, 0, 0))
        rows = [(f(0), f(1), 0, -1), (f(1), f(3), 0, -1), (f(3), f(4), 0, -1)]
        self.taken(rows, other=other)
        self.taken([(f(0), f(4), 0, -1)], other=other)
        for wrong in (rows[:2], rows[1:], rows[:1], rows[::-1], [rows[0], rows[2]], rows + rows[2:], rows[:1] + rows,
                      [rows[1], rows[0], rows[2]], [rows[0], (f(2), f(4), 0, -1)],
                      [(f(0), f(2), 0, -1)] + rows[1:], [(f(-1), f(4), 0, -1)], [(f(0), f(5), 0, -1)],
                      rows[:2] + [(f(3), f(5), 0, -1)], rows + [(f(4), f(5), 0, -1)], rows + [(f(4), f(4), 0, -1)],
                      [(f(0), f(0), 0, -1)] + rows, rows[:1] + [(f(1), f(1), 0, -1)] + rows[1:],
                      [(f(-1), f(0), 0, -1)] + rows, [(f(0), f(3), 0, -1), (f(3), f(1), 0, -1)] + rows[1:]):
            self.refused(wrong, other=other)
            self.refused(tuple(wrong), other=other)

    def test_rows_that_do_not_hold(self):
        # Both ends are far enough, a corner between isn't.
        other = plan_of((0, 9, 0, 0), (2, 3, 0, 0), (4, 9, 0, 0))
        self.refused(((f(0), f(4), 0, -1),), other=other)
        self.refused(((f(0), f(4), 0, -1),), one=plan_of((0, 0, 0, 0), (2, 6, 0, 0), (4, 0, 0, 0)),
                     other=plan_of((0, 7, 0, 0), (4, 7, 0, 0)))
        self.refused(((f(0), f("101/100"), 0, -1), (f("101/100"), f(4), 2, -1)))
        self.refused(((f(0), f("99/100"), 0, -1), (f("99/100"), f(4), 2, -1)))
        # The end counts, by the spots to which they come.
        other = plan_of((0, 9, 0, 0), (4, "599/100", 0, 0))
        self.refused(((f(0), f(4), 0, -1),), other=other)
        other = plan_of((0, 9, 0, 0), (4, 6, 0, 0))
        self.taken(((f(0), f(4), 0, -1),), other=other)
        self.refused(((f(0), f(4), 0, 1),), other=other)
        self.refused(((f(0), f(4), 1, -1),), other=other)
        self.taken(((f(0), f(4), 0, 1),), one=other, other=ONE)

    def test_wide_and_high(self):
        for side in range(3):
            for sign in (1, -1):
                for size in (1, 2, 3, 5):
                    off = [0, 0, 0]
                    off[side] = -sign * size
                    other = plan_of((0, off[0], off[1], off[2]), (4, 4 + off[0], off[1], off[2]))
                    wanted = size >= (5 if side == 2 else 2)
                    self.taken(((f(0), f(4), side, sign),), wanted, other=other, apart=(f(2), f(5)))
                    wanted = size >= (2 if side == 2 else 5)
                    self.taken(((f(0), f(4), side, sign),), wanted, other=other, apart=(f(5), f(2)))

    def test_none_of_those_that_are_near(self):
        for one, other, apart in pairs(150):
            if too_near(one, other, apart):
                begin = max(one[0][0], other[0][0], key=number)
                end = min(one[-1][0], other[-1][0], key=number)
                for side in range(3):
                    for sign in (1, -1):
                        self.refused(((begin, end, side, sign),), one, other, apart)
                self.refused((), one, other, apart)

    def test_spoilt_papers(self):
        spoilt = 0
        for one, other, apart in pairs(300, far=6):
            word, paper = parting(one, other, apart)
            if word == "near" or not paper:
                continue
            rnd = random.Random(len(paper))
            for _ in range(6):
                rows = [list(row) for row in paper]
                row = rnd.choice(rows)
                at = rnd.randrange(4)
                if at < 2:
                    row[at] = f(number(row[at]) + Fraction(rnd.randint(-2, 2), 2))
                else:
                    row[at] = rnd.choice((0, 1, 2)) if at == 2 else -row[at]
                inside = all(spot(one, number(m)) and spot(other, number(m)) for row in rows for m in row[:2])
                wanted = inside and is_shown(one, other, apart, rows)
                self.taken(rows, wanted, one, other, apart)
                spoilt += not wanted
        self.assertGreater(spoilt, 100)


class HandedIn(Base):
    def test_is_as_it_was_and_told_again(self):
        for one, other, apart in pairs(30):
            things = [listed(one), listed(other), list(apart)]
            were = copy.deepcopy(things)
            answer = parting(*things)
            self.same(things, were)
            self.same(parting(*things), answer)
            paper = all_listed(answer[1])
            shown = shows_parting(*things, paper)
            self.same(shown, answer[0] == "clear")
            self.same(paper, all_listed(answer[1]))
            self.same(things, were)


if __name__ == "__main__":
    unittest.main()
