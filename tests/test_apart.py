import copy
import random
import unittest
from fractions import Fraction

from helper import Base, all_listed, f, flight, flights, listed, number, twelve
from skylanes.apart import shows_apart
from skylanes.meets import meet_of

APART = (f(2), f(1))
ABOVE_NOUGHT = (1, 3, 6, 7, 8, 9, 10, 11)

# The other one flies 3 above, in two pieces; of numbers, 11 is 1 less 3.
ONE = flight((0, 0, 0, 0), (4, 4, 0, 0))
OTHER = flight((0, 0, 0, 3), (2, 2, 0, 3), (4, 2, 2, 3))
PAPER = ((0, 0, ((11, f(1)),)), (0, 1, ((11, f(1)),)))


def is_shown(one, other, apart, paper):
    """Whether rows of right kinds show what the document asks, in Python's own fractions."""
    wanted = [(i, j) for i in range(len(one[0]) - 1) for j in range(len(other[0]) - 1)]
    if [(row[0], row[1]) for row in paper] != wanted:
        return False
    for i, j, weights in paper:
        numbers = [at for at, _ in weights]
        if numbers != sorted(set(numbers)) or any(number(weight) <= 0 for _, weight in weights):
            return False
        sums = []
        for s, t in ((0, 0), (1, 0), (0, 1)):
            values = twelve(one, other, apart, i, j, Fraction(s), Fraction(t))
            sums.append(sum(number(weight) * values[at] for at, weight in weights))
        if sums[0] != sums[1] or sums[0] != sums[2]:
            return False
        if sums[0] > 0 or (sums[0] == 0 and not any(at in ABOVE_NOUGHT for at in numbers)):
            return False
    return True


class Papers(Base):
    def test_of_meet_of(self):
        papers = 0
        for one, other, apart in flights(500, far=8):
            answer = meet_of(one, other, apart)
            if answer[0] == "meet":
                continue
            papers += 1
            paper = answer[1]
            self.assertIs(type(paper), tuple)
            for row in paper:
                self.assertIs(type(row), tuple)
                i, j, weights = row
                self.assertTrue(type(i) is int and type(j) is int and type(weights) is tuple)
                for pair in weights:
                    self.same(pair, (pair[0], f(number(pair[1]))))
                    self.assertIs(type(pair[0]), int)
            self.assertTrue(is_shown(one, other, apart, paper))
            self.same(shows_apart(one, other, apart, paper), True)
            self.same(shows_apart(listed(one), listed(other), list(apart), all_listed(paper)), True)
        self.assertGreater(papers, 150)

    def test_a_row_for_each_two_pieces(self):
        one = flight((0, 0, 0, 0), (1, 1, 0, 0), (2, 2, 0, 0), (3, 3, 0, 0))
        other = flight((0, 9, 0, 0), (1, 9, 0, 0), (2, 9, 0, 0))
        rows = [row[:2] for row in meet_of(one, other, APART)[1]]
        self.same(rows, [(0, 0), (0, 1), (1, 0), (1, 1), (2, 0), (2, 1)])
        rows = [row[:2] for row in meet_of(other, one, APART)[1]]
        self.same(rows, [(0, 0), (0, 1), (0, 2), (1, 0), (1, 1), (1, 2)])

    def test_of_those_never_both_there(self):
        other = flight((9, 0, 0, 0), (10, 0, 0, 0), (11, 0, 0, 0))
        self.same([row[:2] for row in meet_of(ONE, other, APART)[1]], [(0, 0), (0, 1)])


class ShowsApart(Base):
    def taken(self, paper, wanted=True, one=ONE, other=OTHER, apart=APART):
        self.same(shows_apart(one, other, apart, paper), wanted)
        self.same(shows_apart(listed(one), listed(other), list(apart), paper), wanted)

    def refused(self, paper, one=ONE, other=OTHER, apart=APART):
        self.taken(paper, False, one, other, apart)

    def with_weights(self, weights):
        """The paper with other weights in its first row, and in its last."""
        return (((0, 0, weights), PAPER[1]), (PAPER[0], (0, 1, weights)))

    def refused_weights(self, weights):
        for paper in self.with_weights(weights):
            self.refused(paper)
            self.refused(all_listed(paper))

    def taken_weights(self, weights):
        for paper in self.with_weights(weights):
            self.taken(paper)
            self.taken(all_listed(paper))

    def test_taken(self):
        self.taken(PAPER)
        self.taken(all_listed(PAPER))
        self.taken(listed(PAPER))
        self.taken([PAPER[0], [0, 1, [(11, [1, 1])]]])

    def test_any_weights_that_show_it(self):
        for weight in ("1/7", "22/7", 10 ** 400, Fraction(1, 10 ** 300 + 1)):
            self.taken_weights(((11, f(weight)),))
        # The width of both sides and the height together: 4 less 2 * 3.
        self.taken_weights(((6, f(1)), (7, f(1)), (11, f(3))))
        self.refused_weights(((6, f(1)), (7, f(1)), (11, f(1))))
        # The piece's own length, of nothing late.
        self.taken_weights(((4, f(5)), (5, f(5)), (11, f(1))))

    def test_things_that_are_no_papers(self):
        deep = PAPER
        for _ in range(25):
            deep = [deep]
        for thing in (None, True, False, 0, 1, -1, "", "ab", "apart", ("apart", PAPER), (), [], ((),), ((), ()),
                      (None, None), [True, False], (1, 2), PAPER[0], PAPER[0][2], deep, ("abc", "abc"), ("", ""),
                      [PAPER], (PAPER, PAPER)):
            self.refused(thing)

    def test_rows_that_lack_or_come_twice(self):
        one = flight((0, 0, 0, 0), (2, 2, 0, 0), (4, 4, 0, 0))
        weights = ((11, f(1)),)
        rows = [(i, j, weights) for i in range(2) for j in range(2)]
        self.taken(rows, one=one)
        self.taken(tuple(rows), one=one)
        for wrong in ([], rows[:3], rows[1:], rows[:1] + rows[2:], rows + rows[3:], rows[:1] + rows, rows + rows,
                      rows[::-1], [rows[0], rows[2], rows[1], rows[3]], rows[:3] + rows[:1], rows[:3] + rows[2:3],
                      [rows[0]] * 4, rows + [(2, 0, weights)], rows + [(1, 2, weights)],
                      [(j, i, weights) for i, j, weights in rows][:2] + rows[2:]):
            self.refused(wrong, one=one)
            self.refused(tuple(wrong), one=one)

    def test_rows_of_other_numbers(self):
        for i, j in ((0, -1), (-1, 0), (0, 1), (1, 0), (0, 2), (False, 0), (0, False), (None, 0), (0, None), ("0", 0),
                     (0, "0"), (f(0), 0), (0, f(0)), ((), 0), (0, [])):
            self.refused(((i, j, PAPER[0][2]), PAPER[1]))
        self.refused((PAPER[0], (0, True, PAPER[1][2])))
        self.refused((PAPER[0], (False, 1, PAPER[1][2])))

    def test_rows_of_other_lengths(self):
        weights = PAPER[0][2]
        for row in ((), (0,), (0, 0), (0, 0, weights, 0), (0, 0, weights, None), (0, 0, weights, weights), None, True,
                    0, "", "abc", weights):
            self.refused((row, PAPER[1]))
            self.refused([list(row) if isinstance(row, tuple) else row, PAPER[1]])

    def test_weights_of_other_things(self):
        for weights in (None, True, False, 0, 11, "", "a", (), [], (None,), (11,), (11, f(1)), ((),), ((11,),),
                        ((11, f(1), 0),), ((11, f(1), None),), ("ab",), ((None, f(1)),), (("11", f(1)),),
                        ((f(11), f(1)),), ((11, None),), ((11, True),), ((11, 1),), ((11, "1"),), ((11, "11"),),
                        ((11, ()),), ((11, (1,)),), ((11, (1, 1, 1)),), ((11, (None, 1)),), ((11, (1, None)),),
                        ((11, ((1,), 1)),), ((11, ("1", 1)),), ((11, f(1)), None), ((11, f(1)), ()), (((11, f(1)),),)):
            self.refused_weights(weights)

    def test_true_for_one(self):
        self.refused_weights(((11, (True, 1)),))
        self.refused_weights(((11, (1, True)),))
        # The number 1 (its end less s), and s less t and t less the begin, of pieces behind one another.
        other = flight((5, 0, 0, 0), (6, 0, 0, 0))
        self.taken(((0, 0, ((1, f(1)), (2, f(1)), (4, f(1)))),), other=other)
        self.refused(((0, 0, ((True, f(1)), (2, f(1)), (4, f(1)))),), other=other)
        one = flight((9, 0, 0, 0), (10, 0, 0, 0))
        self.taken(((0, 0, ((0, f(1)), (3, f(1)), (5, f(1)))),), one=one, other=other)
        self.refused(((0, 0, ((False, f(1)), (3, f(1)), (5, f(1)))),), one=one, other=other)

    def test_weights_that_are_not_above_nought(self):
        for weight in ((0, 1), (-1, 1), (-3, 2)):
            self.refused_weights(((11, weight),))
            self.refused_weights(((10, weight), (11, f(1))))
            self.refused_weights(((0, weight), (11, f(1))))
        # Minus 10 would show anything to be apart.
        self.refused(((0, 0, ((10, (-1, 1)),)), (0, 1, ((10, (-1, 1)),))))

    def test_fractions_not_in_lowest_terms(self):
        for weight in ((2, 2), (2, 4), (-1, -1), (1, -1), (1, 0), (0, 0), (10, 5)):
            self.refused_weights(((11, weight),))

    def test_numbers_that_do_not_rise(self):
        self.taken_weights(((4, f(1)), (5, f(1)), (11, f(1))))
        for weights in (((11, f(1)), (11, f(1))), ((5, f(1)), (4, f(1)), (11, f(1))), ((4, f(1)), (11, f(1)), (5, f(1))),
                        ((11, f(1)), (4, f(1)), (5, f(1))), ((4, f(1)), (4, f(1)), (5, f(2)), (11, f(1)))):
            self.refused_weights(weights)

    def test_numbers_that_are_none_of_the_twelve(self):
        for at in (-1, 12, 13, -12, 10 ** 30):
            self.refused_weights(((at, f(1)),))
            self.refused_weights(tuple(sorted(((at, f(1)), (11, f(1))))))
        # Counted from behind, -1 would be 5 among those of time.
        self.taken_weights(((4, f(1)), (5, f(1)), (11, f(1))))
        self.refused_weights(((-1, f(1)), (4, f(1)), (11, f(1))))

    def test_sums_that_hang_on_a_moment(self):
        # By itself each of these hangs on s, on t, or on both.
        for at in (0, 1, 2, 3, 4, 5, 6, 7):
            self.refused_weights(((at, f(1)),))
            self.refused_weights(((at, f("1/100")), (11, f(9))))
        for weights in (((0, f(1)), (4, f(1)), (11, f(99))), ((0, f(1)), (1, f(2)), (11, f(99))),
                        ((2, f(1)), (3, f(2)), (11, f(99))), ((4, f(1)), (5, f(2)), (11, f(99)))):
            self.refused_weights(weights)
        # The other one stays at its spot, so its moment does not count in x; that of one does.
        other = flight((0, 50, 0, 0), (4, 50, 0, 0))
        self.refused(((0, 0, ((7, f(1)),)),), other=other)
        self.taken(((0, 0, ((1, f(1)), (7, f(1)))),), other=other)
        self.refused(((0, 0, ((7, f(1)),)),)[::-1], one=other, other=ONE)
        self.refused(((0, 0, ((6, f(1)),)),), one=other, other=ONE)
        self.taken(((0, 0, ((3, f(1)), (6, f(1)))),), one=other, other=ONE)

    def test_sums_above_nought(self):
        self.refused_weights(((10, f(1)),))
        self.refused_weights(((10, f(1)), (11, f(1))))
        self.refused_weights(((10, f(1)), (11, f("19/10"))))
        self.taken_weights(((10, f(1)), (11, f("21/10"))))

    def test_sums_of_just_nought(self):
        # Just as far above as it must be.
        other = flight((0, 0, 0, 1), (4, 4, 0, 1))
        paper = ((0, 0, ((11, f(1)),)),)
        self.taken(paper, other=other)
        self.refused(paper, other=flight((0, 0, 0, "99/100"), (4, 4, 0, "99/100")))
        # 4 and 5 of flights that are never late come to 0, and may be so.
        self.refused(((0, 0, ((4, f(1)), (5, f(1)))),), other=other)
        self.taken(((0, 0, ((4, f(1)), (5, f(1)), (11, f(1)))),), other=other)
        # Without any weights the sum is 0, too.
        self.refused(((0, 0, ()),), other=other)
        self.refused(((0, 0, []),), other=other)

    def test_just_nought_by_time(self):
        # The other one comes just when one is there no more: 1 is above 0, and 3.
        other = flight((4, 4, 0, 0), (8, 8, 0, 0))
        paper = ((0, 0, ((1, f(1)), (2, f(1)), (4, f(1)))),)
        self.taken(paper, other=other)
        self.refused(paper, other=flight(("399/100", 4, 0, 0), (8, 8, 0, 0)))
        self.taken(((0, 0, ((0, f(1)), (3, f(1)), (5, f(1)))),), one=other, other=ONE)
        # That one may be late by 1 counts, and by which of both.
        late = flight((0, 0, 0, 0), (4, 4, 0, 0), late=1)
        self.refused(paper, one=late, other=other)
        self.taken(paper, one=late, other=flight((5, 4, 0, 0), (8, 8, 0, 0)))
        self.taken(paper, other=flight((4, 4, 0, 0), (8, 8, 0, 0), late=9))

    def test_each_of_the_twelve(self):
        for side in range(3):
            for sign in (1, -1):
                reach = (1 + 3 + 5) if side == 2 else (2 + 4 + 6)
                for off, wanted in ((reach, True), (reach + 1, True), (reach - Fraction(1, 100), False)):
                    here = [0, 0, 0]
                    here[side] = -sign * off
                    one = flight((0, 0, 0, 0), (4, 0, 0, 0), aside=4, above=3)
                    other = flight([0] + here, [4] + here, aside=6, above=5)
                    at = 6 + 2 * side + (0 if sign == 1 else 1)
                    self.taken(((0, 0, ((at, f(1)),)),), wanted, one=one, other=other)
                    self.refused(((0, 0, ((13 + 4 * side - at, f(1)),)),), one=one, other=other)

    def test_none_of_flights_that_meet(self):
        rnd = random.Random(3)
        many = 0
        for one, other, apart in flights(200, far=3):
            if meet_of(one, other, apart)[0] == "apart":
                continue
            many += 1
            places = [(i, j) for i in range(len(one[0]) - 1) for j in range(len(other[0]) - 1)]
            for at in range(12):
                self.same(shows_apart(one, other, apart, [(i, j, [(at, f(1))]) for i, j in places]), False)
            weights = [(at, f(rnd.randint(1, 3))) for at in range(12) if rnd.random() < 0.3]
            self.same(shows_apart(one, other, apart, [(i, j, weights) for i, j in places]), False)
            self.same(shows_apart(one, other, apart, ()), False)
        self.assertGreater(many, 100)

    def test_papers_of_others(self):
        # A paper of two flights that are apart, told of two that meet, or of others that are apart, too.
        rows = [row for row in flights(120, far=8, most=2)]
        papers = [meet_of(*row)[1] for row in rows if meet_of(*row)[0] == "apart"]
        refused = 0
        for one, other, apart in rows:
            met = meet_of(one, other, apart)[0] == "meet"
            for paper in papers[:12]:
                shown = shows_apart(one, other, apart, paper)
                self.same(shown, is_shown(one, other, apart, paper))
                self.assertFalse(met and shown)
                refused += not shown
        self.assertGreater(refused, 100)

    def test_spoilt_papers(self):
        spoilt = 0
        for one, other, apart in flights(250, far=8):
            answer = meet_of(one, other, apart)
            if answer[0] == "meet":
                continue
            rnd = random.Random(len(answer[1]))
            for _ in range(5):
                rows = [[i, j, [list(pair) for pair in weights]] for i, j, weights in answer[1]]
                row = rnd.choice(rows)
                pair = rnd.choice(row[2])
                how = rnd.randrange(4)
                if how == 0:
                    pair[0] = rnd.randrange(12)
                elif how == 1:
                    pair[1] = f(number(pair[1]) * Fraction(rnd.randint(1, 5), 3))
                elif how == 2:
                    row[2].remove(pair)
                else:
                    row[rnd.randrange(2)] += rnd.choice((-1, 1))
                wanted = is_shown(one, other, apart, rows)
                self.taken(rows, wanted, one, other, apart)
                spoilt += not wanted
        self.assertGreater(spoilt, 150)

    def test_long_numbers(self):
        big = 10 ** 399 + 7
        one = flight((0, 0, 0, 0), (Fraction(1, 10 ** 299), big, 0, 0), late=Fraction(3, 10 ** 299 + 1))
        other = flight((0, -3, Fraction(1, 7), 0), (Fraction(1, 10 ** 299), "-5/2", 0, 0), aside=Fraction(1, 10 ** 298))
        answer = meet_of(one, other, APART)
        self.same(answer[0], "apart")
        self.taken(answer[1], one=one, other=other)
        self.taken(all_listed(answer[1]), one=one, other=other)

    def test_is_as_it_was(self):
        for one, other, apart in flights(60, far=8):
            answer = meet_of(one, other, apart)
            paper = all_listed(answer[1]) if answer[0] == "apart" else [[0, 0, [[0, [1, 1]]]]]
            things = [listed(one), listed(other), list(apart), paper]
            were = copy.deepcopy(things)
            shown = shows_apart(*things)
            self.same(shown, answer[0] == "apart")
            self.same(things, were)
            self.same(shows_apart(*things), shown)


if __name__ == "__main__":
    unittest.main()
