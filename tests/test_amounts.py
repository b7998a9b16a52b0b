import copy
import random
import unittest
from fractions import Fraction

from helper import Sets, ends_of, f, flight, listed, number, probes, some_bounds, some_plan, st
from skylanes.amounts import bad_amounts, bad_at_gate, bad_in_room, least_amount, least_out
from skylanes.gates import use_of
from skylanes.meets import meet_of
from skylanes.rooms import stays
from skylanes.shapes import shaped
from skylanes.stretches import both_of

APART = (f(2), f(1))
SIX = ("east", "west", "north", "south", "up", "down")
WORDS = ("wait", "slow") + SIX
ALL = (st(0, 1, None),)
SMALL = Fraction(1, 10 ** 6)

# Straight on along x; the same with a corner on its way.
LINE = flight((0, 0, 0, 0), (10, 10, 0, 0))
BENT = flight((0, 0, 0, 0), (5, 5, 0, 0), (10, 10, 0, 0))


def still(begin, end, x=5, y=0, z=0, **bounds):
    """A flight that stays at one spot from begin to end."""
    return flight((begin, x, y, z), (end, x, y, z), **bounds)


def hall(low=(4, -1, -1), high=(6, 1, 1), most=1):
    return ("hall", tuple(f(value) for value in low), tuple(f(value) for value in high), most)


def some_times(rnd):
    """A set of times, overlapping ones among them, in any order, and at times without end."""
    told = []
    for _ in range(rnd.randint(0, 4)):
        begin = Fraction(rnd.randint(-20, 60), 3)
        end = None if rnd.random() < 0.1 else begin + Fraction(rnd.randint(1, 12), 3)
        told.append(st(begin, rnd.randint(0, 1), end))
    return told


class Amounts(Sets):
    def is_so(self, answer, one, word, now, is_bad):
        """A told set has just the amounts with which the shaped plan is bad, by a look at many of them."""
        if shaped(one[0], (word, f(1)), now) is None:
            self.assertIsNone(answer)
            return 0
        ends = ends_of(answer)
        grid = [Fraction(at, 2) for at in range(0, 30, 3)] + [Fraction(200)]
        near = [end + off for end in ends for off in (SMALL, -SMALL)]
        amounts = [amount for amount in probes(*ends, *grid) + near if amount >= 0]
        self.tells(answer, amounts, lambda amount: is_bad((shaped(one[0], (word, f(amount)), now), one[1])))
        for begin, held, end in answer:
            self.assertGreaterEqual(number(begin), 0)
            # Begins are held at 0 alone.
            self.assertTrue(held == 0 or begin == f(0))
        return len(ends)

    def comes(self, one, word, now, other, wanted, apart=APART):
        answer = bad_amounts(one, word, f(now), other, apart)
        self.same(answer, wanted)
        self.same(bad_amounts(listed(one), word, f(now), listed(other), list(apart)), wanted)
        if wanted is not None:
            self.is_so(answer, one, word, f(now), lambda by: meet_of(by, other, apart)[0] == "meet")

    def in_room(self, one, word, now, times, wanted, room=None):
        room = room or hall()
        answer = bad_in_room(one, word, f(now), room, times)
        self.same(answer, wanted)
        self.same(bad_in_room(listed(one), word, f(now), listed(room), tuple(listed(tuple(times)))), wanted)
        if wanted is not None:
            self.is_so(answer, one, word, f(now), lambda by: bool(both_of(stays(by, room), times)))

    def at_gate(self, one, word, now, times, side, wanted, hold=2):
        gate = ("west", f(hold), 1)
        answer = bad_at_gate(one, word, f(now), gate, times, side)
        self.same(answer, wanted)
        self.same(bad_at_gate(listed(one), word, f(now), list(gate), tuple(listed(tuple(times))), side), wanted)
        if wanted is not None:
            self.is_so(answer, one, word, f(now), lambda by: bool(both_of(
                [use_of(gate, by[0][-1 if side else 0][0], by[1][2])], times)))


class BadAmounts(Amounts):
    def test_wait_ahead_of_the_plan(self):
        # One is near the spot from 3 to 7, neither of these counted.
        for now in (-5, 0):
            self.comes(LINE, "wait", now, still(4, 8), (st(0, 1, 5),))
            self.comes(LINE, "wait", now, still(20, 24), (st(13, 0, 21),))
            self.comes(LINE, "wait", now, still(-9, 3), ())
            self.comes(LINE, "wait", now, still(7, 8), (st(0, 0, 5),))

    def test_wait_on_the_way(self):
        self.comes(LINE, "wait", 2, still(4, 8), (st(0, 1, 5),))
        self.comes(LINE, "wait", 2, still(20, 24), (st(13, 0, 21),))
        # It waits where it is too near, and is so for as long.
        self.comes(LINE, "wait", 4, still(20, 24), (st(13, 0, None),))
        # What was flown ahead of now stays as it was.
        self.comes(LINE, "wait", 5, still(3, 5), (st(0, 1, None),))
        self.comes(LINE, "wait", 7, still(3, 99), (st(0, 1, None),))
        self.comes(LINE, "wait", 7, still(7, 99), ())
        self.comes(LINE, "wait", "699/100", still(7, 99), (st(0, 0, None),))

    def test_slow(self):
        for now in (-5, 0):
            self.comes(LINE, "slow", now, still(4, 8), (st(0, 1, "5/3"),))
            self.comes(LINE, "slow", now, still(20, 24), (st("13/7", 0, 7),))
            self.comes(LINE, "slow", now, still(7, 24), (st(0, 0, 7),))
        self.comes(LINE, "slow", 2, still(20, 24), (st("13/5", 0, 21),))
        # It is too near from now on, and the slower the longer.
        self.comes(LINE, "slow", 4, still(20, 24), (st("13/3", 0, None),))
        self.comes(LINE, "slow", 7, still(7, 99), ())

    def test_sideways(self):
        # At 4 and just ahead of 6 four fifths of the amount.
        for word in ("north", "south"):
            self.comes(BENT, word, 0, still(4, 6), (st(0, 1, "5/2"),))
            self.comes(BENT, word, 0, still(5, "21/4"), (st(0, 1, "40/19"),))
        self.comes(BENT, "north", -3, still(4, 6, y=5), (st(3, 0, "35/4"),))
        self.comes(BENT, "north", 0, still(4, 6, y=-5), ())
        self.comes(BENT, "south", 0, still(4, 6, y=-5), (st(3, 0, "35/4"),))
        self.comes(BENT, "south", 0, still(4, 6, y=5), ())

    def test_along_its_way(self):
        self.comes(BENT, "east", 0, still(4, 6), (st(0, 1, "15/4"),))
        self.comes(BENT, "west", 0, still(4, 6), (st(0, 1, "15/4"),))
        self.comes(BENT, "east", 0, still(4, 6, x=9), (st("5/4", 0, "35/4"),))
        self.comes(BENT, "west", 0, still(4, 6, x=9), ())
        self.comes(BENT, "west", 0, still(4, 6, x=1), (st("5/4", 0, "35/4"),))
        self.comes(BENT, "east", 0, still(4, 6, x=1), ())

    def test_above_and_below(self):
        for word in ("up", "down"):
            self.comes(BENT, word, 0, still(4, 6), (st(0, 1, "5/4"),))
        self.comes(BENT, "up", 0, still(4, 6, z=3), (st(2, 0, 5),))
        self.comes(BENT, "down", 0, still(4, 6, z=3), ())
        self.comes(BENT, "down", 0, still(4, 6, z=-3), (st(2, 0, 5),))
        self.comes(BENT, "up", 0, still(4, 6, z=-3), ())

    def test_sideways_on_the_way(self):
        plan = flight((0, 0, 0, 0), (4, 4, 0, 0), (8, 8, 0, 0), (12, 12, 0, 0))
        # At a corner: what comes behind it but the last one is put off.
        self.comes(plan, "north", 4, still(7, 9, x=8), (st(0, 1, "8/3"),))
        self.comes(plan, "north", 4, still(0, 4, x=3), ALL)
        # At the corner itself it is where it was, and just behind it, too.
        self.comes(plan, "north", 4, still(4, 5, x=4), ALL)
        # Between two corners.
        self.comes(plan, "north", 6, still(7, 8, x=8), (st(0, 1, 4),))
        self.comes(plan, "south", 6, still(7, 8, x=8, y=-3), (st(1, 0, 10),))
        # Ahead of it: all but the first and the last one.
        self.comes(plan, "north", -1, still(5, 6, x=6, y=3), (st(1, 0, 5),))

    def test_none(self):
        # Whatever is near, none at all too.
        for other in (still(4, 8), still(90, 99)):
            for word in SIX:
                for now in (-3, 0, 4, "999/100"):
                    self.comes(LINE, word, now, other, None)
                for now in (5, 6, 9):
                    self.comes(BENT, word, now, other, None)
                self.assertIsNotNone(bad_amounts(BENT, word, f("499/100"), other, APART))
            for word in ("wait", "slow"):
                self.assertIsNotNone(bad_amounts(LINE, word, f(9), other, APART))

    def test_all_alike_where_the_plan_is_over(self):
        for word in WORDS:
            for now in (10, "21/2", 99):
                for plan in (LINE, BENT):
                    self.comes(plan, word, now, still(4, 8), ALL)
                    self.comes(plan, word, now, still(20, 24), ())
                    self.comes(plan, word, now, still(9, 99, x=10), ALL)

    def test_just_the_distance_at_nought(self):
        self.comes(BENT, "north", 0, still(4, 6, y=2), (st(0, 0, 5),))
        self.comes(BENT, "south", 0, still(4, 6, y=2), ())
        self.comes(BENT, "up", 0, still(4, 6, z=1), (st(0, 0, "5/2"),))
        self.comes(LINE, "wait", 0, still(7, 9), (st(0, 0, 6),))

    def test_several_stretches(self):
        other = flight((0, 5, 0, 0), (8, 5, 0, 0), ("17/2", 5, 90, 0), (19, 5, 90, 0), ("39/2", 5, 0, 0), (24, 5, 0, 0))
        answer = bad_amounts(LINE, "wait", f(0), other, APART)
        self.assertEqual(len(answer), 2)
        self.assertEqual((answer[0][:2], answer[1][2]), ((f(0), 1), f(21)))
        self.comes(LINE, "wait", 0, other, answer)

    def test_one_amount_between_two_stretches(self):
        # The other one is just off from 8 to 12, and by just 5 one comes by in that time.
        other = flight((0, 5, 0, 0), (8, 5, 2, 0), (12, 5, 2, 0), (20, 5, 0, 0))
        self.comes(LINE, "wait", 0, other, (st(0, 1, 5), st(5, 0, 17)))

    def test_bounds_of_either(self):
        self.comes(LINE, "wait", 0, still(20, 24), (st(13, 0, 21),))
        late = flight((0, 0, 0, 0), (10, 10, 0, 0), late=3)
        self.comes(late, "wait", 0, still(20, 24), (st(10, 0, 21),))
        self.comes(LINE, "wait", 0, still(20, 24, late=2), (st(13, 0, 23),))
        self.comes(late, "wait", 0, still(20, 24, late=2), (st(10, 0, 23),))
        self.comes(late, "slow", 0, still(20, 24, late=2), (st("10/7", 0, "23/3"),))
        wide = (BENT[0], (f(1), f(0), f(0)))
        self.comes(wide, "north", 0, still(4, 6, aside="1/2"), (st(0, 1, "35/8"),))
        self.comes(wide, "up", 0, still(4, 6, aside="1/2"), (st(0, 1, "5/4"),))
        tall = (BENT[0], (f(0), f(1), f(0)))
        self.comes(tall, "up", 0, still(4, 6, above="1/2"), (st(0, 1, "25/8"),))
        self.comes(tall, "north", 0, still(4, 6, above="1/2"), (st(0, 1, "5/2"),))

    def test_now_at_each_place(self):
        plan = flight((0, 0, 0, 0), (4, 4, 2, 0), (8, 8, 0, 0), (12, 12, 2, 0), late=1)
        other = flight((3, 12, 1, 0), (13, 2, 1, 0), (20, 9, 1, 0), aside="1/2")
        for word in WORDS:
            for now in (-1, 0, 2, 4, 6, 8, 10, 12, 14):
                answer = bad_amounts(plan, word, f(now), other, APART)
                self.comes(plan, word, now, other, answer)
                self.assertEqual(answer is None, word in SIX and 8 <= now < 12)

    def test_many(self):
        ends = {word: 0 for word in WORDS}
        for seed in range(560):
            rnd = random.Random(seed)
            far = rnd.choice((3, 6, 10))
            one = (some_plan(rnd, far=far), some_bounds(rnd))
            other = (some_plan(rnd, far=far), some_bounds(rnd))
            apart = (f(rnd.randint(1, 6), 2), f(rnd.randint(1, 6), 2))
            word = WORDS[seed % 8]
            now = f(rnd.randint(-16, 30), 2)
            answer = bad_amounts(one, word, now, other, apart)
            ends[word] += self.is_so(answer, one, word, now, lambda by: meet_of(by, other, apart)[0] == "meet")
        self.assertGreater(min(ends.values()), 20)

    def test_long_numbers(self):
        big = 10 ** 399 + 7
        small = Fraction(1, 10 ** 299 + 9)
        one = flight((0, 0, 0, 0), (big, big, small, 0), (big + 1, 0, 0, 0), late=small)
        other = flight((small, big, big, 0), (2 * big, big, -big, 0), aside=small)
        for word in WORDS:
            for now in (-1, small, big):
                answer = bad_amounts(one, word, f(now), other, APART)
                self.is_so(answer, one, word, f(now), lambda by: meet_of(by, other, APART)[0] == "meet")

    def test_twelve_corners(self):
        one = flight(*[(m, m, m * m % 5, 0) for m in range(12)], late=2)
        other = flight(*[(m, 11 - m, m * m % 7, "3/2") for m in range(12)], late=1)
        for word in WORDS:
            answer = bad_amounts(one, word, f("5/2"), other, APART)
            self.is_so(answer, one, word, f("5/2"), lambda by: meet_of(by, other, APART)[0] == "meet")


class InRoom(Amounts):
    def test_ordinary(self):
        # One is in the room from 4 to 6, neither of these counted.
        self.in_room(LINE, "wait", 0, [st(20, 1, 24)], (st(14, 0, 20),))
        self.in_room(LINE, "wait", -9, [st(0, 1, 7)], (st(0, 1, 3),))
        self.in_room(LINE, "wait", 3, [st(20, 1, 24)], (st(14, 0, 20),))
        self.in_room(LINE, "wait", 5, [st(20, 1, 24)], (st(14, 0, None),))
        self.in_room(LINE, "slow", 0, [st(20, 1, 24)], (st("7/3", 0, 5),))
        for word in ("north", "south", "up", "down"):
            self.in_room(BENT, word, 0, [st(4, 1, 5)], (st(0, 1, "5/4"),))
        self.in_room(BENT, "north", 0, [st(4, 1, 5)], (st(1, 0, "15/4"),), hall((4, 1, -1), (6, 3, 1)))
        self.in_room(BENT, "east", 0, [st(4, 1, 5)], (st(0, 1, "5/2"),))
        self.in_room(BENT, "west", 0, [st(4, 1, 5)], (st(0, 1, 1),))

    def test_held_and_not_held(self):
        for held in (0, 1):
            self.in_room(LINE, "wait", 0, [st(20, held, 24)], (st(14, 0, 20),))
            self.in_room(LINE, "wait", 5, [st(6, held, 24)], (st(0, 0, None),))
            self.in_room(LINE, "wait", 0, [st(6, held, 7)], (st(0, 0, 3),))
            self.in_room(LINE, "wait", 0, [st(-6, held, 4)], ())

    def test_no_times(self):
        for word in WORDS:
            self.in_room(BENT, word, 0, [], ())
            self.in_room(LINE, word, 0, [], () if word in ("wait", "slow") else None)

    def test_overlapping_and_without_end(self):
        self.in_room(LINE, "wait", 0, [st(22, 0, 24), st(20, 1, 23), st(20, 0, 22)], (st(14, 0, 20),))
        self.in_room(LINE, "wait", 0, [st(20, 1, None), st(30, 0, 40)], (st(14, 0, None),))
        self.in_room(LINE, "wait", 0, [st(30, 0, 31), st(10, 0, 11)], (st(4, 0, 7), st(24, 0, 27)))
        self.in_room(LINE, "wait", 0, [st(12, 0, 13), st(10, 0, 11)], (st(4, 0, 9),))
        # Two that have but one moment between them.
        self.in_room(LINE, "wait", 0, [st(10, 0, 12), st(12, 0, 13)], (st(4, 0, 9),))
        # It is in the room for just as long as there is between them.
        self.in_room(LINE, "wait", 0, [st(10, 0, 12), st(14, 0, 15)], (st(4, 0, 8), st(8, 0, 11)))
        self.in_room(LINE, "wait", 0, [st(-9, 1, None)], ALL)

    def test_bounds(self):
        late = flight((0, 0, 0, 0), (10, 10, 0, 0), late=3)
        self.in_room(late, "wait", 0, [st(20, 1, 24)], (st(11, 0, 20),))
        self.in_room(late, "wait", 0, [st(20, 0, 24)], (st(11, 0, 20),))
        self.in_room(late, "slow", 0, [st(20, 0, 24)], (st("11/6", 0, 5),))
        wide = flight((0, 0, 0, 0), (10, 10, 0, 0), aside=1, above=5)
        self.in_room(wide, "wait", 0, [st(20, 1, 24)], (st(13, 0, 21),))
        self.in_room((BENT[0], (f(1), f(0), f(0))), "north", 0, [st(4, 1, 5)], (st(0, 1, "5/2"),))
        self.in_room((BENT[0], (f(0), f(1), f(0))), "up", 0, [st(4, 1, 5)], (st(0, 1, "5/2"),))
        self.in_room((BENT[0], (f(0), f(1), f(0))), "north", 0, [st(4, 1, 5)], (st(0, 1, "5/4"),))

    def test_none_and_all_alike(self):
        for word in WORDS:
            for now in (10, 11):
                self.in_room(LINE, word, now, [st(4, 1, 5)], ALL)
                self.in_room(LINE, word, now, [st(6, 1, 9)], ())
            if word in SIX:
                for now in (-1, 0, 3):
                    self.in_room(LINE, word, now, [st(50, 1, 60)], None)
                self.in_room(BENT, word, 5, [st(50, 1, 60)], None)

    def test_how_many_the_room_may_have_does_not_count(self):
        self.in_room(LINE, "wait", 0, [st(20, 1, 24)], (st(14, 0, 20),), hall(most=9))

    def test_many(self):
        ends = 0
        for seed in range(480):
            rnd = random.Random(seed)
            one = (some_plan(rnd, far=rnd.choice((3, 6, 10))), some_bounds(rnd))
            low = [Fraction(rnd.randint(-8, 4), 2) for _ in range(3)]
            room = hall(low, [value + Fraction(rnd.randint(1, 9), 2) for value in low])
            times = some_times(rnd)
            word = WORDS[seed % 8]
            now = f(rnd.randint(-16, 30), 2)
            answer = bad_in_room(one, word, now, room, times)
            ends += self.is_so(answer, one, word, now, lambda by: bool(both_of(stays(by, room), times)))
        self.assertGreater(ends, 80)


class AtGate(Amounts):
    def test_first_moment(self):
        # A use takes 2.
        for now in (-4, 0):
            self.at_gate(LINE, "wait", now, [st(20, 1, 24)], 0, (st(18, 0, 24),))
        self.at_gate(LINE, "wait", "1/100", [st(20, 1, 24)], 0, ())
        self.at_gate(LINE, "wait", 5, [st(1, 1, 24)], 0, ALL)
        for word in ("slow",) + SIX:
            self.at_gate(BENT, word, 0, [st(1, 1, 24)], 0, ALL)
            self.at_gate(BENT, word, 0, [st(2, 1, 24)], 0, ())
            self.at_gate(BENT, word, -5, [st(-2, 1, 0)], 0, ())
            self.at_gate(BENT, word, -5, [st(-2, 1, "1/100")], 0, ALL)

    def test_last_moment(self):
        for now in (-4, 0, 5, "999/100"):
            self.at_gate(LINE, "wait", now, [st(20, 1, 24)], 1, (st(8, 0, 14),))
        for now in (-4, 0):
            self.at_gate(LINE, "slow", now, [st(20, 1, 24)], 1, (st("4/5", 0, "7/5"),))
        self.at_gate(LINE, "slow", 5, [st(20, 1, 24)], 1, (st("8/5", 0, "14/5"),))
        for word in SIX:
            self.at_gate(BENT, word, 0, [st(11, 1, 24)], 1, ALL)
            self.at_gate(BENT, word, 0, [st(12, 1, 24)], 1, ())
            self.at_gate(BENT, word, 0, [st(9, 1, 10)], 1, ())

    def test_late_counts(self):
        late = flight((0, 0, 0, 0), (10, 10, 0, 0), late=3)
        self.at_gate(late, "wait", 0, [st(20, 1, 24)], 0, (st(15, 0, 24),))
        self.at_gate(late, "wait", 0, [st(20, 1, 24)], 1, (st(5, 0, 14),))
        self.at_gate(late, "slow", 0, [st(20, 1, 24)], 1, (st("1/2", 0, "7/5"),))
        self.at_gate(late, "wait", 0, [st(20, 1, 24)], 1, (st("9/2", 0, 14),), hold="5/2")

    def test_at_nought(self):
        self.at_gate(LINE, "wait", 0, [st(2, 1, 3)], 0, (st(0, 0, 3),))
        self.at_gate(LINE, "wait", 0, [st(1, 1, 3)], 0, (st(0, 1, 3),))
        self.at_gate(LINE, "wait", 0, [st(-1, 1, 0)], 0, ())

    def test_times(self):
        for held in (0, 1):
            self.at_gate(LINE, "wait", 0, [st(20, held, 24)], 0, (st(18, 0, 24),))
        self.at_gate(LINE, "wait", 0, [st(22, 0, 24), st(20, 1, 23)], 0, (st(18, 0, 24),))
        self.at_gate(LINE, "wait", 0, [st(20, 1, None)], 0, (st(18, 0, None),))
        self.at_gate(LINE, "wait", 0, [st(30, 1, 31), st(20, 1, 21)], 0, (st(18, 0, 21), st(28, 0, 31)))
        # A slot that is just long enough.
        self.at_gate(LINE, "wait", 0, [st(0, 1, 3), st(5, 1, 7)], 0, (st(0, 1, 3), st(3, 0, 7)))
        for word in WORDS:
            for side in (0, 1):
                self.at_gate(BENT, word, 0, [], side, ())

    def test_none_and_all_alike(self):
        for side, near, far in ((0, st(1, 1, 2), st(10, 1, 11)), (1, st(11, 1, 12), st(1, 1, 2))):
            for word in WORDS:
                for now in (10, 11):
                    self.at_gate(LINE, word, now, [near], side, ALL)
                    self.at_gate(LINE, word, now, [far], side, ())
                if word in SIX:
                    for times in ([near], [far], []):
                        self.at_gate(LINE, word, 0, times, side, None)
                        self.at_gate(BENT, word, 5, times, side, None)

    def test_many(self):
        ends = 0
        for seed in range(320):
            rnd = random.Random(seed)
            one = (some_plan(rnd), some_bounds(rnd))
            gate = ("west", f(rnd.randint(1, 6), 2), 1)
            times = some_times(rnd)
            word = WORDS[seed % 8]
            now = f(rnd.randint(-16, 30), 2)
            for side in (0, 1):
                answer = bad_at_gate(one, word, now, gate, times, side)
                ends += self.is_so(answer, one, word, now, lambda by: bool(both_of(
                    [use_of(gate, by[0][-1 if side else 0][0], by[1][2])], times)))
        self.assertGreater(ends, 200)


class LeastOut(Amounts):
    def comes_to(self, sets, most, wanted):
        self.same(least_out(sets, f(most)), None if wanted is None else f(wanted))
        self.same(least_out(tuple(None if rows is None else listed(tuple(rows)) for rows in sets), f(most)),
                  None if wanted is None else f(wanted))

    def test_of_no_sets(self):
        for most in (0, 1, "7/2"):
            self.comes_to([], most, 0)
            self.comes_to([()], most, 0)
            self.comes_to([[], ()], most, 0)

    def test_a_none_among_them(self):
        self.comes_to([None], 5, None)
        self.comes_to([(), None], 5, None)
        self.comes_to([None, (), ()], 5, None)

    def test_at_nought(self):
        self.comes_to([(st(0, 0, 4),)], 5, 0)
        self.comes_to([(st(0, 0, 4),), (st(1, 0, None),)], 0, 0)
        self.comes_to([(st(0, 1, 4),)], 0, None)

    def test_at_an_end(self):
        self.comes_to([(st(0, 1, 4),)], 5, 4)
        self.comes_to([(st(0, 1, 4),)], 4, 4)
        self.comes_to([(st(0, 1, 4),)], "399/100", None)
        self.comes_to([(st(0, 1, 4), st(4, 0, 6))], 9, 4)
        self.comes_to([(st(0, 1, 4),), (st(4, 0, 6),)], 9, 4)
        self.comes_to([(st(0, 1, 4),), (st(3, 0, 6),)], 9, 6)
        self.comes_to([(st(3, 0, 6),), (st(5, 0, "13/2"), st(9, 0, None)), (st(0, 1, 4),)], 9, "13/2")

    def test_none_at_all(self):
        self.comes_to([ALL], 9, None)
        self.comes_to([(st(0, 1, 4),), (st(3, 0, None),)], 10 ** 9, None)

    def test_in_any_order(self):
        self.comes_to([[st(3, 0, 5), st(0, 1, 2), st(1, 0, 4)]], 9, 5)


class LeastAmount(Amounts):
    def comes_to(self, one, word, now, others, most, wanted):
        wanted = None if wanted is None else f(wanted)
        self.same(least_amount(one, word, f(now), others, APART, f(most)), wanted)
        self.same(least_amount(listed(one), word, f(now), tuple(listed(other) for other in others),
                               list(APART), f(most)), wanted)

    def test_of_no_others(self):
        for word in WORDS:
            for now in (-1, 5, 99):
                self.comes_to(LINE, word, now, [], 0, 0)
                self.comes_to(LINE, word, now, [], 9, 0)

    def test_of_one(self):
        self.comes_to(LINE, "wait", 0, [still(4, 8)], 9, 5)
        self.comes_to(LINE, "wait", 0, [still(4, 8)], 5, 5)
        self.comes_to(LINE, "wait", 0, [still(4, 8)], "499/100", None)
        self.comes_to(LINE, "wait", 0, [still(40, 48)], 0, 0)
        self.comes_to(LINE, "up", 0, [still(40, 48)], 9, None)
        self.comes_to(LINE, "wait", 10, [still(4, 8)], 9, None)
        self.comes_to(LINE, "wait", 10, [still(40, 48)], 9, 0)
        # Enough is just the distance, and no less is.
        self.comes_to(BENT, "north", 0, [still(4, 6)], 9, "5/2")

    def test_of_several(self):
        # From 0 to below 5; above 4 to below 9; above 10.
        others = [still(4, 8), still(11, 12), still(17, 18)]
        self.comes_to(LINE, "wait", 0, others, 20, 9)
        self.comes_to(LINE, "wait", 0, others[::-1], 20, 9)
        self.comes_to(LINE, "wait", 0, others, "899/100", None)
        self.comes_to(LINE, "wait", 0, others + [still(16, 17)], 20, 9)
        self.comes_to(LINE, "wait", 0, others + [still("31/2", 17)], 20, 15)
        self.comes_to(LINE, "wait", 0, [still(4, 6), still(11, 12)], 20, 3)

    def test_is_the_least(self):
        found = 0
        for seed in range(160):
            rnd = random.Random(seed)
            one = (some_plan(rnd, far=6), some_bounds(rnd))
            others = [(some_plan(rnd, far=6), some_bounds(rnd)) for _ in range(rnd.randint(1, 3))]
            word = WORDS[seed % 8]
            now = f(rnd.randint(-12, 8), 2)

            def is_bad(amount):
                by = (shaped(one[0], (word, f(amount)), now), one[1])
                return any(meet_of(by, other, APART)[0] == "meet" for other in others)

            answer = least_amount(one, word, now, others, APART, f(8))
            if shaped(one[0], (word, f(1)), now) is None:
                self.assertIsNone(answer)
                continue
            limit = Fraction(8) if answer is None else number(answer)
            self.assertEqual(is_bad(limit), answer is None)
            for share in range(0, 20):
                self.assertTrue(limit == 0 or is_bad(limit * share / 20))
            if limit > SMALL:
                self.assertTrue(is_bad(limit - SMALL))
            found += answer is not None and limit > 0
        self.assertGreater(found, 15)


class HandedIn(Amounts):
    def test_is_as_it_was_and_told_again(self):
        for seed in range(24):
            rnd = random.Random(seed)
            one = [listed(some_plan(rnd)), list(some_bounds(rnd))]
            other = [listed(some_plan(rnd)), list(some_bounds(rnd))]
            room, gate, times = listed(hall()), ["west", f(2), 1], [list(row) for row in some_times(rnd)]
            things = [one, other, room, gate, times, list(APART)]
            were = copy.deepcopy(things)
            word, now = WORDS[seed % 8], f(rnd.randint(-5, 5))
            for _ in range(2):
                answers = [bad_amounts(one, word, now, other, things[5]), bad_in_room(one, word, now, room, times),
                           bad_at_gate(one, word, now, gate, times, 1), least_out([times], f(3)),
                           least_amount(one, word, now, [other], things[5], f(9))]
                self.same(things, were)
                again = [bad_amounts(one, word, now, other, things[5]), bad_in_room(one, word, now, room, times),
                         bad_at_gate(one, word, now, gate, times, 1), least_out([times], f(3)),
                         least_amount(one, word, now, [other], things[5], f(9))]
                self.same(again, answers)


if __name__ == "__main__":
    unittest.main()
