import copy
import unittest
from fractions import Fraction

from helper import Base, all_listed, f, flight, flights, listed, may_meet, number, pairs
from skylanes.apart import shows_apart
from skylanes.meets import is_meet, meet_of
from skylanes.nearness import gap_at, too_near

APART = (f(2), f(1))
SURE = (f(0), f(0), f(0))


class Meets(Base):
    def tells(self, one, other, s, t, wanted, apart=APART):
        """Asked either way about, and of lists."""
        self.same(is_meet(one, other, apart, f(s), f(t)), wanted)
        self.same(is_meet(other, one, apart, f(t), f(s)), wanted)
        self.same(is_meet(listed(one), listed(other), list(apart), f(s), f(t)), wanted)

    def is_told(self, one, other, apart, answer):
        """An answer of meet_of is a meet, or a paper that the checker takes."""
        self.assertIs(type(answer), tuple)
        if answer[0] == "meet":
            self.assertEqual(len(answer), 3)
            s, t = number(answer[1]), number(answer[2])
            self.same(answer, ("meet", f(s), f(t)))
            self.assertTrue(may_meet(one, other, apart, s, t))
            self.same(is_meet(one, other, apart, answer[1], answer[2]), True)
        else:
            self.assertEqual((len(answer), answer[0]), (2, "apart"))
            self.same(shows_apart(one, other, apart, answer[1]), True)
            self.same(shows_apart(one, other, apart, all_listed(answer[1])), True)

    def comes(self, one, other, word, apart=APART):
        for former, latter in ((one, other), (other, one)):
            answer = meet_of(former, latter, apart)
            self.same(answer[0], word)
            self.is_told(former, latter, apart, answer)
            self.same(meet_of(listed(former), listed(latter), list(apart)), answer)


class IsMeet(Meets):
    def test_ordinary(self):
        one = flight((0, 0, 0, 0), (8, 8, 0, 0))
        other = flight((0, 8, 1, 0), (8, 0, 1, 0))
        self.tells(one, other, 4, 4, True)
        self.tells(one, other, 3, 3, False)
        self.tells(one, other, "31/10", "31/10", True)
        self.tells(one, other, 4, 5, False)

    def test_first_and_last_moment(self):
        one = flight((0, 0, 0, 0), (4, 0, 0, 0), late=9)
        other = flight((0, 0, 0, 0), (4, 0, 0, 0), late=9)
        for m in ("-1/100", 4, "401/100"):
            for inner in (0, 2):
                self.tells(one, other, m, inner, False)
                self.tells(one, other, inner, m, False)
            self.tells(one, other, m, m, False)
        for m in (0, "1/100", "399/100"):
            for inner in (0, 2):
                self.tells(one, other, m, inner, True)
                self.tells(one, other, inner, m, True)

    def test_times(self):
        # One is known but for 2, the other but for 3.
        one = flight((0, 0, 0, 0), (20, 0, 0, 0), late=2)
        other = flight((0, 0, 0, 0), (20, 0, 0, 0), late=3)
        for ahead, wanted in ((-3, False), ("-201/100", False), (-2, True), ("-199/100", True), (0, True),
                              (2, True), ("299/100", True), (3, True), ("301/100", False), (4, False)):
            self.tells(one, other, 10 + Fraction(ahead), 10, wanted)

    def test_one_late_alone(self):
        one = flight((0, 0, 0, 0), (20, 0, 0, 0), late=2)
        other = flight((0, 0, 0, 0), (20, 0, 0, 0))
        for ahead, wanted in ((-3, False), (-2, True), (-1, True), (0, True), ("1/100", False), (2, False)):
            self.tells(one, other, 10 + Fraction(ahead), 10, wanted)

    def test_wide_and_both_asides(self):
        for one_aside, other_aside in ((0, 0), (1, 0), (0, "1/2"), (1, "1/2")):
            reach = 2 + Fraction(one_aside) + Fraction(other_aside)
            one = flight((0, 5, 5, 5), (4, 5, 5, 5), aside=one_aside)
            for side in (1, 2):
                for sign in (1, -1):
                    for off, wanted in ((reach, False), (reach - Fraction(1, 100), True),
                                        (reach + Fraction(1, 100), False), (0, True)):
                        here = [5, 5, 5]
                        here[side - 1] += sign * off
                        other = flight([0] + here, [4] + here, aside=other_aside)
                        self.tells(one, other, 1, 1, wanted)

    def test_high_and_both_aboves(self):
        for one_above, other_above in ((0, 0), (1, 0), (0, "1/2"), (1, "1/2")):
            reach = 1 + Fraction(one_above) + Fraction(other_above)
            one = flight((0, 5, 5, 5), (4, 5, 5, 5), above=one_above)
            for sign in (1, -1):
                for off, wanted in ((reach, False), (reach - Fraction(1, 100), True),
                                    (reach + Fraction(1, 100), False), (0, True)):
                    other = flight((0, 5, 5, 5 + sign * off), (4, 5, 5, 5 + sign * off), above=other_above)
                    self.tells(one, other, 1, 1, wanted)

    def test_asides_are_not_aboves(self):
        one = flight((0, 0, 0, 0), (4, 0, 0, 0), aside=9)
        self.tells(one, flight((0, 0, 0, 1), (4, 0, 0, 1), aside=9), 1, 1, False)
        one = flight((0, 0, 0, 0), (4, 0, 0, 0), above=9)
        self.tells(one, flight((0, 2, 0, 0), (4, 2, 0, 0), above=9), 1, 1, False)
        self.tells(one, flight((0, 0, 2, 0), (4, 0, 2, 0), above=9), 1, 1, False)

    def test_all_of_the_sides_count(self):
        one = flight((0, 0, 0, 0), (4, 0, 0, 0))
        for here, wanted in (((1, 1, "1/2"), True), ((1, 1, 1), False), ((1, 2, "1/2"), False), ((2, 1, "1/2"), False)):
            self.tells(one, flight((0,) + here, (4,) + here), 1, 1, wanted)

    def test_spots_of_their_own_moments(self):
        # Each is looked at by its own moment, not by the time at which both would be there.
        one = flight((0, 0, 0, 0), (10, 10, 0, 0), late=5)
        other = flight((0, 9, 0, 0), (10, 9, 0, 0))
        self.tells(one, other, 8, 9, True)
        self.tells(one, other, 5, 9, False)
        self.tells(one, other, "71/10", 9, True)

    def test_bounds_of_nothing(self):
        near = 0
        for one, other, apart in pairs(120):
            for m in [Fraction(at, 2) for at in range(-13, 29)]:
                gap = gap_at(one, other, apart, f(m))
                wanted = gap is not None and number(gap) < 1
                near += wanted
                self.tells((one, SURE), (other, SURE), m, m, wanted, apart)
                self.tells((one, SURE), (other, SURE), m, m + Fraction(1, 9), False, apart)
        self.assertGreater(near, 100)

    def test_many(self):
        met = 0
        for one, other, apart in flights(60):
            for s in [Fraction(at, 2) for at in range(-12, 28, 3)]:
                for t in [s + Fraction(at, 2) for at in range(-6, 7)]:
                    wanted = may_meet(one, other, apart, s, t)
                    met += wanted
                    self.same(is_meet(one, other, apart, f(s), f(t)), wanted)
        self.assertGreater(met, 200)


class MeetOf(Meets):
    def test_ordinary(self):
        one = flight((0, 0, 0, 0), (8, 8, 0, 0))
        self.comes(one, flight((0, 8, 1, 0), (8, 0, 1, 0)), "meet")
        self.comes(one, flight((0, 8, 2, 0), (8, 0, 2, 0)), "apart")
        self.comes(one, flight((0, 8, 0, 1), (8, 0, 0, 1)), "apart")
        self.comes(one, flight((0, 8, 0, "99/100"), (8, 0, 0, "99/100")), "meet")
        self.comes(one, one, "meet")

    def test_never_both_there(self):
        one = flight((0, 0, 0, 0), (4, 0, 0, 0))
        self.comes(one, flight((4, 0, 0, 0), (8, 0, 0, 0)), "apart")
        self.comes(one, flight((5, 0, 0, 0), (8, 0, 0, 0)), "apart")
        self.comes(one, flight(("399/100", 0, 0, 0), (8, 0, 0, 0)), "meet")

    def test_only_by_late(self):
        # One is over at 4; the other comes at 7, or at 6 and a bit.
        first = ((0, 0, 0, 0), (4, 0, 0, 0))
        for begin, late, word in ((7, 2, "apart"), (7, 3, "apart"), (7, "301/100", "meet"), (7, 9, "meet"),
                                  (4, 0, "apart"), (4, "1/100", "meet")):
            other = flight((begin, 0, 0, 0), (begin + 4, 0, 0, 0))
            self.comes(flight(*first, late=late), other, word)
            # That the other one may be late helps nothing.
            self.comes(flight(*first), flight((begin, 0, 0, 0), (begin + 4, 0, 0, 0), late=late), "apart")

    def test_only_by_late_at_one_place(self):
        # Both go through the same spot, one at 5 and the other at 15.
        one = ((0, -10, 0, 0), (10, 10, 0, 0))
        other = ((0, 0, -30, 0), (30, 0, 30, 0))
        # One is near the spot from 4 to 6, the other from 14 to 16, neither at these themselves.
        for late, word in ((0, "apart"), (7, "apart"), (8, "apart"), ("801/100", "meet"), (20, "meet"), (40, "meet")):
            self.comes(flight(*one, late=late), flight(*other), word)

    def test_only_by_aside(self):
        one = ((0, 0, 0, 0), (8, 8, 0, 0))
        for side in (0, 1):
            off = [0, 0]
            off[side] = 5
            other = ((0, off[0], off[1], 0), (8, 8 + off[0], off[1], 0))
            for aside, other_aside, word in ((0, 0, "apart"), (2, 1, "apart"), (3, 0, "apart"), (0, 3, "apart"),
                                             (2, "101/100", "meet"), (0, 4, "meet"), (4, 0, "meet")):
                self.comes(flight(*one, aside=aside), flight(*other, aside=other_aside), word)
            self.comes(flight(*one, above=9), flight(*other, above=9), "apart")

    def test_only_by_above(self):
        one = ((0, 0, 0, 0), (8, 8, 0, 0))
        other = ((0, 0, 0, -4), (8, 8, 0, -4))
        for above, other_above, word in ((0, 0, "apart"), (2, 1, "apart"), (3, 0, "apart"), (0, 3, "apart"),
                                         (2, "101/100", "meet"), (0, 4, "meet"), (4, 0, "meet")):
            self.comes(flight(*one, above=above), flight(*other, above=other_above), word)
        self.comes(flight(*one, aside=9), flight(*other, aside=9), "apart")

    def test_at_an_edge_alone(self):
        stays = ((0, 0, 0, 0), (4, 0, 0, 0))
        # Near at the very first moment, and flown off at once; or never near.
        self.comes(flight(*stays), flight((0, "199/100", 0, 0), (4, 99, 0, 0)), "meet")
        self.comes(flight(*stays), flight((0, 2, 0, 0), (4, 99, 0, 0)), "apart")
        # Near just ahead of the last moment; or just at it, when it is there no more.
        self.comes(flight(*stays), flight((0, 99, 0, 0), (4, "199/100", 0, 0)), "meet")
        self.comes(flight(*stays), flight((0, 99, 0, 0), (4, 2, 0, 0)), "apart")
        # At a corner alone.
        self.comes(flight(*stays), flight((0, 99, 0, 0), (2, "199/100", 0, 0), (4, 99, 0, 0)), "meet")
        self.comes(flight(*stays), flight((0, 99, 0, 0), (2, 2, 0, 0), (4, 99, 0, 0)), "apart")

    def test_at_the_edge_of_late(self):
        # One is at the spot at 5 alone but for one way, the other comes by at 8: 3 is just enough.
        one = ((0, -500, 0, 0), (5, 0, 0, 0), (10, -500, 0, 0))
        other = ((3, 2, -500, 0), (8, 2, 0, 0), (13, 2, -500, 0))
        for late in (2, 3, 4):
            self.comes(flight(*one, late=late), flight(*other), "apart")
        near = ((3, "199/100", -500, 0), (8, "199/100", 0, 0), (13, "199/100", -500, 0))
        for late, word in ((2, "apart"), ("297/100", "apart"), (3, "meet"), (4, "meet")):
            self.comes(flight(*one, late=late), flight(*near), word)

    def test_bounds_of_nothing(self):
        near = 0
        for one, other, apart in pairs(300, far=6):
            wanted = "meet" if too_near(one, other, apart) else "apart"
            near += wanted == "meet"
            self.comes((one, SURE), (other, SURE), wanted, apart)
        self.assertTrue(60 < near < 240)

    def test_many(self):
        words = {"meet": 0, "apart": 0}
        for one, other, apart in flights(500, far=8):
            answer = meet_of(one, other, apart)
            self.is_told(one, other, apart, answer)
            self.comes(other, one, answer[0], apart)
            words[answer[0]] += 1
        self.assertGreater(min(words.values()), 100)

    def test_wider_bounds_meet_too(self):
        for one, other, apart in flights(150, far=8):
            if meet_of(one, other, apart)[0] == "meet":
                for at in range(3):
                    bounds = list(one[1])
                    bounds[at] = f(number(bounds[at]) + 1)
                    self.comes((one[0], tuple(bounds)), other, "meet", apart)

    def test_long_numbers(self):
        big = 10 ** 399 + 7
        small = Fraction(1, 10 ** 299 + 9)
        one = flight((0, 0, 0, 0), (small, big, 0, 0), (big, big, big, 0), late=small)
        near = flight((0, big, 0, 0), (big, big, 2 - small, 0), aside=small)
        self.comes(one, near, "meet")
        far = flight((0, big + 4, small, 0), (big, big + 3, small, 0), aside=small, late=small)
        self.comes(one, far, "apart")

    def test_twelve_corners(self):
        one = flight(*[(m, m, m * m % 5, 0) for m in range(12)], late=2)
        other = flight(*[(m, m, m * m % 7, 1) for m in range(12)], late=1)
        self.comes(one, other, "apart")
        self.comes(one, flight(*[(m, 11 - m, m * m % 7, "1/2") for m in range(12)], late=1), "meet")


class HandedIn(Meets):
    def test_is_as_it_was_and_told_again(self):
        for one, other, apart in flights(60, far=8):
            things = [listed(one), listed(other), list(apart)]
            were = copy.deepcopy(things)
            answer = meet_of(*things)
            self.same(things, were)
            self.same(meet_of(*things), answer)
            self.same(meet_of(one, other, apart), answer)
            is_meet(*things, f(1), f(1))
            self.same(things, were)


if __name__ == "__main__":
    unittest.main()
