import copy
import random
import unittest
from fractions import Fraction

from helper import Sets, ends_of, f, listed, member, number, probes, st
from skylanes.gates import busy, next_slot, over_used, use_of


def gate_of(hold, many=1, name="north"):
    return (name, f(hold), many)


def some_uses(rnd, gate, most=7):
    """Uses of a gate at few moments, so that they are often alike or touch one another."""
    return [use_of(gate, f(rnd.randint(-6, 20), 2), f(rnd.choice((0, 0, 1, 3)), 2))
            for _ in range(rnd.randint(0, most))]


def count_at(uses, m):
    return sum(member([use], m) for use in uses)


def is_free(gate, uses, late, m):
    """Whether a use at m has no busy time: it is enough to look where a use begins or ends, and between."""
    end = m + number(late) + number(gate[1])
    return all(count_at(uses, at) < gate[2] for at in probes(m, end, *ends_of(uses)) if m <= at < end)


class UseOf(Sets):
    def test_not_late(self):
        self.same(use_of(gate_of(3), f(5), f(0)), st(5, 1, 8))
        self.same(use_of(gate_of("1/2"), f("-1/3"), f(0)), st("-1/3", 1, "1/6"))

    def test_late(self):
        self.same(use_of(gate_of(3), f(5), f(2)), st(5, 1, 10))
        self.same(use_of(gate_of("1/2"), f(0), f("1/3")), st(0, 1, "5/6"))

    def test_many_does_not_count(self):
        for many in (1, 2, 10 ** 6):
            self.same(use_of(gate_of(3, many), f(5), f(2)), st(5, 1, 10))

    def test_long_numbers(self):
        m, late, hold = Fraction(10 ** 399 + 1, 7), Fraction(3, 10 ** 299 + 1), Fraction(10 ** 399, 11)
        self.same(use_of(gate_of(hold), f(m), f(late)), st(m, 1, m + late + hold))


class Busy(Sets):
    def test_no_uses(self):
        for none in ([], ()):
            for many in (1, 2):
                self.same(busy(gate_of(3, many), none), ())
                self.same(over_used(gate_of(3, many), none), ())

    def test_one_at_a_time(self):
        gate = gate_of(3)
        self.same(busy(gate, [st(0, 1, 3)]), (st(0, 1, 3),))
        self.same(over_used(gate, [st(0, 1, 3)]), ())
        self.same(busy(gate, [st(9, 1, 12), st(0, 1, 3)]), (st(0, 1, 3), st(9, 1, 12)))
        self.same(busy(gate, [st(0, 1, 3), st(2, 1, 5)]), (st(0, 1, 5),))
        self.same(over_used(gate, [st(0, 1, 3), st(2, 1, 5)]), (st(2, 1, 3),))

    def test_several_at_a_time(self):
        uses = [st(0, 1, 6), st(2, 1, 8), st(4, 1, 10)]
        for many, wanted in ((1, (st(0, 1, 10),)), (2, (st(2, 1, 8),)), (3, (st(4, 1, 6),)), (4, ()), (10 ** 6, ())):
            self.same(busy(gate_of(6, many), uses), wanted)
            if many > 1:
                self.same(over_used(gate_of(6, many - 1), uses), wanted)

    def test_touching(self):
        uses = [st(0, 1, 3), st(3, 1, 6)]
        self.same(busy(gate_of(3), uses), (st(0, 1, 6),))
        self.same(busy(gate_of(3), uses[::-1]), (st(0, 1, 6),))
        self.same(over_used(gate_of(3), uses), ())
        self.same(busy(gate_of(3, 2), uses), ())
        twice = uses + [st(0, 1, 3), st(3, 1, 6)]
        self.same(busy(gate_of(3, 2), twice), (st(0, 1, 6),))

    def test_alike_ones_count_each(self):
        uses = [st(0, 1, 3)] * 3
        self.same(busy(gate_of(3, 3), uses), (st(0, 1, 3),))
        self.same(busy(gate_of(3, 4), uses), ())
        self.same(over_used(gate_of(3, 2), uses), (st(0, 1, 3),))
        self.same(over_used(gate_of(3, 3), uses), ())

    def test_many(self):
        over = 0
        for seed in range(300):
            rnd = random.Random(seed)
            gate = gate_of(rnd.choice(("1/2", "1", "3")), rnd.randint(1, 3))
            uses = some_uses(rnd, gate)
            moments = probes(*ends_of(uses))
            self.tells(busy(gate, uses), moments, lambda m: count_at(uses, m) >= gate[2])
            self.tells(over_used(gate, uses), moments, lambda m: count_at(uses, m) > gate[2])
            over += over_used(gate, uses) != ()
        self.assertGreater(over, 60)


class NextSlot(Sets):
    def test_no_uses(self):
        for none in ([], ()):
            self.same(next_slot(gate_of(3), none, f(0), f(5)), f(5))
            self.same(next_slot(gate_of(3), none, f(9), f("-1/2")), f("-1/2"))

    def test_at_m_itself(self):
        gate, uses = gate_of(3), [st(10, 1, 13)]
        for m in (0, 6, 7, 13, 14, 99):
            self.same(next_slot(gate, uses, f(0), f(m)), f(m))

    def test_behind_a_busy_time(self):
        gate, uses = gate_of(3), [st(10, 1, 13)]
        for m in ("701/100", 8, 10, 12, "1299/100"):
            self.same(next_slot(gate, uses, f(0), f(m)), f(13))

    def test_between_two(self):
        gate = gate_of(3)
        first = st(0, 1, 3)
        # Just long enough, a little too short, and longer.
        self.same(next_slot(gate, [first, st(6, 1, 9)], f(0), f(0)), f(3))
        self.same(next_slot(gate, [first, st("599/100", 1, "899/100")], f(0), f(0)), f("899/100"))
        self.same(next_slot(gate, [first, st(7, 1, 10)], f(0), f(0)), f(3))
        self.same(next_slot(gate, [first, st(7, 1, 10)], f(0), f(4)), f(4))
        self.same(next_slot(gate, [first, st(7, 1, 10)], f(0), f("401/100")), f(10))

    def test_behind_all(self):
        gate = gate_of(3)
        uses = [st(0, 1, 3), st(5, 1, 8), st(10, 1, 13), st(13, 1, 16)]
        for turn in range(4):
            self.same(next_slot(gate, uses[turn:] + uses[:turn], f(0), f("-5/2")), f(16))
        self.same(next_slot(gate, uses, f(0), f(-3)), f(-3))

    def test_late(self):
        gate, uses = gate_of(3), [st(0, 1, 3), st(8, 1, 11)]
        self.same(next_slot(gate, uses, f(2), f(0)), f(3))
        self.same(next_slot(gate, uses, f("201/100"), f(0)), f(11))
        self.same(next_slot(gate, uses, f(1), f(4)), f(4))
        self.same(next_slot(gate, uses, f(1), f("401/100")), f(11))
        self.same(next_slot(gate, uses, f(1), f(-4)), f(-4))
        self.same(next_slot(gate, uses, f(1), f("-399/100")), f(3))

    def test_several_at_a_time(self):
        uses = [st(0, 1, 6), st(2, 1, 8), st(4, 1, 10)]
        self.same(next_slot(gate_of(6, 2), uses, f(0), f(0)), f(8))
        self.same(next_slot(gate_of(6, 2), uses, f(0), f(-4)), f(-4))
        self.same(next_slot(gate_of(1, 2), uses, f(0), f(1)), f(1))
        self.same(next_slot(gate_of(1, 2), uses, f("1/9"), f(1)), f(8))
        self.same(next_slot(gate_of(6, 3), uses, f(0), f(0)), f(6))
        self.same(next_slot(gate_of(6, 4), uses, f(0), f(0)), f(0))
        self.same(next_slot(gate_of(6, 1), uses, f(0), f(0)), f(10))

    def test_many(self):
        moved = 0
        for seed in range(600):
            rnd = random.Random(seed)
            gate = gate_of(rnd.choice(("1/2", "1", "2")), rnd.randint(1, 3))
            uses = some_uses(rnd, gate)
            late, m = f(rnd.choice((0, 0, 1, 2)), 2), Fraction(rnd.randint(-8, 20), 2)
            answer = next_slot(gate, uses, late, f(m))
            slot = number(answer)
            self.same(answer, f(slot))
            self.assertTrue(slot >= m and is_free(gate, uses, late, slot))
            # A use may become free where a busy time ends, or be so from m on.
            for earlier in [m] + [end for end in ends_of(uses) if end >= m]:
                if earlier < slot:
                    self.assertFalse(is_free(gate, uses, late, earlier))
            moved += slot > m
        self.assertGreater(moved, 100)


class HandedIn(Sets):
    def test_is_as_it_was_and_told_again(self):
        for seed in range(40):
            rnd = random.Random(seed)
            gate = gate_of(2, rnd.randint(1, 2))
            uses = some_uses(rnd, gate)
            things = [list(gate), listed(tuple(uses))]
            were = copy.deepcopy(things)
            self.same(use_of(things[0], f(4), f(1)), use_of(gate, f(4), f(1)))
            for told in (busy, over_used):
                self.same(told(things[0], things[1]), told(gate, tuple(uses)))
                self.same(told(things[0], things[1]), told(gate, tuple(uses)))
            answer = next_slot(gate, tuple(uses), f(1), f(0))
            self.same(next_slot(things[0], things[1], f(1), f(0)), answer)
            self.same(next_slot(things[0], things[1], f(1), f(0)), answer)
            self.same(things, were)


if __name__ == "__main__":
    unittest.main()
