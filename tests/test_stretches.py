import copy
import random
import unittest
from fractions import Fraction

from helper import Sets, ends_of, f, member, number, probes, st
from skylanes.stretches import both_of, is_in, later_by, many_of, most_in, out_from, told_set


def some_set(rnd, most=5):
    rows = []
    for _ in range(rnd.randint(0, most)):
        begin = Fraction(rnd.randint(-8, 16), 2)
        end = None if rnd.random() < 0.08 else begin + Fraction(rnd.randint(1, 8), 2)
        stretch = (f(begin), rnd.randint(0, 1), None if end is None else f(end))
        rows.append(list(stretch) if rnd.random() < 0.5 else stretch)
    return rows if rnd.random() < 0.5 else tuple(rows)


class ToldSet(Sets):
    def test_none_at_all(self):
        self.same(told_set([]), ())
        self.same(told_set(()), ())

    def test_one(self):
        for stretch in (st(0, 1, 2), st(0, 0, 2), st(-3, 1, None), st(-3, 0, None)):
            self.same(told_set([stretch]), (stretch,))
            self.same(told_set([list(stretch)]), (stretch,))

    def test_one_twice(self):
        for stretch in (st(0, 1, 2), st(0, 0, 2), st(0, 0, None)):
            self.same(told_set([stretch, stretch]), (stretch,))

    def test_overlapping_in_any_order(self):
        rows = [st(4, 0, 6), st(0, 1, 2), st(1, 0, 3), st(5, 1, 9)]
        for turn in range(4):
            self.same(told_set(rows[turn:] + rows[:turn]), (st(0, 1, 3), st(4, 0, 9)))

    def test_one_within_another(self):
        self.same(told_set([st(0, 0, 9), st(2, 1, 3)]), (st(0, 0, 9),))
        self.same(told_set([st(2, 1, 3), st(0, 0, None)]), (st(0, 0, None),))

    def test_touching(self):
        self.same(told_set([st(0, 1, 2), st(2, 1, 3)]), (st(0, 1, 3),))
        self.same(told_set([st(2, 1, 3), st(0, 0, 2)]), (st(0, 0, 3),))
        self.same(told_set([st(0, 1, 2), st(2, 0, 3)]), (st(0, 1, 2), st(2, 0, 3)))
        self.same(told_set([st(2, 0, 3), st(0, 0, 2)]), (st(0, 0, 2), st(2, 0, 3)))
        self.same(told_set([st(0, 1, 2), st(2, 0, 3), st(2, 1, 4)]), (st(0, 1, 4),))
        self.same(told_set([st(0, 1, 2), st(2, 0, 3), st(1, 0, 4)]), (st(0, 1, 4),))

    def test_begin_held_by_one_of_two(self):
        self.same(told_set([st(0, 0, 2), st(0, 1, 1)]), (st(0, 1, 2),))
        self.same(told_set([st(0, 1, 1), st(0, 0, 2)]), (st(0, 1, 2),))

    def test_without_end(self):
        self.same(told_set([st(0, 1, 2), st(1, 1, None)]), (st(0, 1, None),))
        self.same(told_set([st(5, 1, None), st(1, 0, None), st(0, 1, 1)]), (st(0, 1, 1), st(1, 0, None)))
        self.same(told_set([st(7, 1, 9), st(5, 1, None)]), (st(5, 1, None),))

    def test_numbers_of_hundreds_of_figures(self):
        low, high = (10 ** 399 + 1, 10 ** 299 + 7), (10 ** 399 + 2, 10 ** 299 + 7)
        far = (10 ** 399 + 3, 10 ** 299 + 7)
        self.same(told_set([(high, 1, far), (low, 0, high)]), ((low, 0, far),))
        self.same(told_set([(high, 0, far), (low, 0, high)]), ((low, 0, high), (high, 0, far)))

    def test_many_by_each_moment(self):
        for seed in range(400):
            rows = some_set(random.Random(seed), 7)
            self.tells(told_set(rows), probes(*ends_of(rows)), lambda m: member(rows, m))

    def test_sixty_stretches(self):
        # Those of even numbers are held, or the others.
        rows = [st(at, 1 - at % 2, at + 1) for at in range(60)]
        wanted = [st(0, 1, 1)] + [st(at, 0, at + 2) for at in range(1, 59, 2)] + [st(59, 0, 60)]
        self.same(told_set(rows[::-1]), tuple(wanted))
        rows = [st(at, at % 2, at + 1) for at in range(60)]
        self.same(told_set(rows), tuple([st(at, 0, at + 2) for at in range(0, 60, 2)]))


class IsIn(Sets):
    def test_edges(self):
        rows = [st(0, 1, 2), list(st(2, 0, 3)), st(5, 0, None)]
        for m, wanted in ((-1, False), (0, True), (1, True), (2, False), ("5/2", True), (3, False), (4, False),
                          (5, False), ("11/2", True), (10 ** 300, True)):
            self.same(is_in(rows, f(m)), wanted)
            self.same(is_in(tuple(rows), f(m)), wanted)

    def test_none_at_all(self):
        self.same(is_in([], f(0)), False)
        self.same(is_in((), f(0)), False)

    def test_overlapping(self):
        self.same(is_in([st(0, 0, 2), st(-1, 1, 1)], f(0)), True)
        self.same(is_in([st(-1, 1, 1), st(0, 0, 2)], f(1)), True)
        self.same(is_in([st(0, 0, 2), st(0, 1, 2)], f(0)), True)

    def test_many_by_each_moment(self):
        for seed in range(150):
            rows = some_set(random.Random(seed))
            for m in probes(*ends_of(rows)):
                self.same(is_in(rows, f(m)), member(rows, m))


class BothOf(Sets):
    def test_ordinary(self):
        self.same(both_of([st(0, 1, 4)], [st(2, 0, 6)]), (st(2, 0, 4),))
        self.same(both_of([st(0, 1, None)], [st(2, 1, None)]), (st(2, 1, None),))

    def test_edges(self):
        self.same(both_of([], [st(0, 1, 2)]), ())
        self.same(both_of([st(0, 1, 2)], ()), ())
        self.same(both_of([st(0, 1, 2)], [st(2, 1, 3)]), ())
        self.same(both_of([st(0, 1, 2)], [st(0, 0, 2)]), (st(0, 0, 2),))
        self.same(both_of([st(0, 1, 2), st(1, 1, 3)], []), ())
        self.same(both_of([st(0, 1, 2), st(1, 1, 3)], [st(5, 1, 6)]), ())

    def test_as_few_as_there_can_be(self):
        self.same(both_of([st(0, 1, 2), st(2, 1, 4)], [st(1, 1, 3)]), (st(1, 1, 3),))
        self.same(both_of([st(0, 1, 2), st(2, 0, 4)], [st(1, 1, 3)]), (st(1, 1, 2), st(2, 0, 3)))
        self.same(both_of([st(0, 1, 2), st(2, 1, 4)], [st(0, 1, 1), st(1, 1, 4)]), (st(0, 1, 4),))

    def test_many_by_each_moment(self):
        for seed in range(200):
            rnd = random.Random(seed)
            one, other = some_set(rnd), some_set(rnd)
            answer = both_of(one, other)
            moments = probes(*ends_of(one) + ends_of(other))
            self.tells(answer, moments, lambda m: member(one, m) and member(other, m))
            self.same(both_of(other, one), answer)


class ManyOf(Sets):
    def test_each_set_counts_once(self):
        twice = [st(0, 1, 4), st(0, 1, 4), st(1, 0, 3)]
        self.same(many_of([twice], 1), (st(0, 1, 4),))
        self.same(many_of([twice], 2), ())
        self.same(many_of([twice, [st(2, 1, 9)]], 2), (st(2, 1, 4),))
        self.same(many_of([twice, twice], 2), (st(0, 1, 4),))

    def test_n_beyond_the_number_of_sets(self):
        self.same(many_of([[st(0, 1, 4)], [st(0, 1, 4)]], 3), ())
        self.same(many_of([[st(0, 1, None)]], 10 ** 6), ())
        self.same(many_of([], 1), ())
        self.same(many_of([[], []], 1), ())

    def test_one_goes_as_another_comes(self):
        sets = [[st(0, 1, 2)], [st(2, 1, 4)], [st(0, 1, 4)]]
        self.same(many_of(sets, 1), (st(0, 1, 4),))
        self.same(many_of(sets, 2), (st(0, 1, 4),))
        self.same(many_of(sets, 3), ())
        sets[1] = [st(2, 0, 4)]
        self.same(many_of(sets, 1), (st(0, 1, 4),))
        self.same(many_of(sets, 2), (st(0, 1, 2), st(2, 0, 4)))

    def test_lists_and_tuples(self):
        wanted = (st(1, 1, 2),)
        self.same(many_of(((st(0, 1, 2),), (st(1, 1, 3),)), 2), wanted)
        self.same(many_of([[list(st(0, 1, 2))], [list(st(1, 1, 3))]], 2), wanted)

    def test_many_by_each_moment(self):
        for seed in range(200):
            rnd = random.Random(seed)
            sets = [some_set(rnd) for _ in range(rnd.randint(0, 5))]
            moments = probes(*[end for one in sets for end in ends_of(one)])
            for n in range(1, 7):
                self.tells(many_of(sets, n), moments, lambda m: sum(member(one, m) for one in sets) >= n)

    def test_forty_sets_of_sixty(self):
        sets = [[st(at + 60 * k, 1, at + 60 * k + 1) for k in range(60)] for at in range(40)]
        answer = many_of(sets, 1)
        self.same(answer, tuple(st(60 * k, 1, 60 * k + 40) for k in range(60)))
        self.same(many_of(sets, 2), ())


class MostIn(Sets):
    def test_none(self):
        self.same(most_in([]), (0, None))
        self.same(most_in(()), (0, None))
        self.same(most_in([[], ()]), (0, None))

    def test_first_of_several(self):
        sets = [[st(0, 1, 2), st(4, 0, 9)], [st(1, 0, 5)], [st(8, 1, None)]]
        self.same(most_in(sets), (2, st(1, 0, 2)))
        self.same(most_in(sets[2:]), (1, st(8, 1, None)))
        self.same(most_in([[st(5, 1, 6), st(0, 0, 1)]]), (1, st(0, 0, 1)))

    def test_each_set_counts_once(self):
        self.same(most_in([[st(0, 1, 4), st(1, 1, 3)], [st(2, 0, 6)]]), (2, st(2, 0, 4)))
        self.same(most_in([[st(0, 1, 2), st(0, 1, 2)]]), (1, st(0, 1, 2)))

    def test_as_few_as_there_can_be(self):
        self.same(most_in([[st(0, 1, 2)], [st(2, 1, 4)]]), (1, st(0, 1, 4)))
        self.same(most_in([[st(0, 1, 2)], [st(2, 0, 4)]]), (1, st(0, 1, 2)))

    def test_as_many_of_tells(self):
        for seed in range(200):
            rnd = random.Random(seed)
            sets = [some_set(rnd) for _ in range(rnd.randint(0, 5))]
            most = max([n for n in range(1, 7) if many_of(sets, n)], default=0)
            self.same(most_in(sets), (most, many_of(sets, most)[0]) if most else (0, None))


class OutFrom(Sets):
    def test_out_at_once(self):
        self.same(out_from([], f(3)), f(3))
        self.same(out_from([st(0, 0, 2)], f(0)), f(0))
        self.same(out_from([st(0, 1, 2)], f(2)), f(2))
        self.same(out_from([st(0, 1, 2)], f(-1)), f(-1))
        self.same(out_from([st(0, 1, 2)], f(7)), f(7))
        self.same(out_from([st(0, 1, None)], f(-1, 2)), f(-1, 2))

    def test_in(self):
        self.same(out_from([st(0, 1, 2)], f(0)), f(2))
        self.same(out_from([st(0, 0, 2)], f(1)), f(2))
        self.same(out_from([st(1, 1, 3), st(0, 1, 2)], f(1)), f(3))
        self.same(out_from([st(2, 1, 3), st(0, 1, 2)], f(1)), f(3))
        self.same(out_from([st(2, 0, 3), st(0, 1, 2)], f(1)), f(2))
        self.same(out_from([st(5, 1, 6), st(0, 1, 2)], f(1)), f(2))

    def test_never_out(self):
        self.same(out_from([st(0, 1, None)], f(0)), None)
        self.same(out_from([st(0, 0, None)], f(9)), None)
        self.same(out_from([list(st(2, 1, None)), st(0, 1, 2)], f(1)), None)
        self.same(out_from([st(2, 0, None), st(0, 1, 2)], f(1)), f(2))

    def test_many_by_each_moment(self):
        for seed in range(150):
            rows = some_set(random.Random(seed), 7)
            moments = probes(*ends_of(rows))
            for m in moments:
                answer = out_from(rows, f(m))
                wanted = [later for later in moments if later >= m and not member(rows, later)]
                # Where it is out at all, its least moment is m itself or an end.
                self.same(answer, f(wanted[0]) if wanted else None)


class LaterBy(Sets):
    def test_nought(self):
        rows = [st(1, 1, 3), st(0, 0, 2)]
        self.same(later_by(rows, f(0)), (st(0, 0, 3),))
        self.same(later_by([st(0, 1, 2), st(2, 0, 3)], f(0)), (st(0, 1, 2), st(2, 0, 3)))
        self.same(later_by([], f(0)), ())

    def test_more(self):
        self.same(later_by([st(0, 1, 2)], f(1, 2)), (st(0, 1, Fraction(5, 2)),))
        self.same(later_by([st(0, 0, 2)], f(3)), (st(0, 0, 5),))
        self.same(later_by([st(0, 1, None)], f(3)), (st(0, 1, None),))
        self.same(later_by([], f(3)), ())
        self.same(later_by([st(0, 1, 2), st(2, 0, 3)], f(1, 9)), (st(0, 1, Fraction(28, 9)),))

    def test_gaps_shut_or_not(self):
        rows = [st(0, 1, 2), list(st(3, 1, 4)), st(5, 0, 6)]
        self.same(later_by(rows, f(1)), (st(0, 1, 5), st(5, 0, 7)))
        self.same(later_by(rows, f(1, 2)), (st(0, 1, Fraction(5, 2)), st(3, 1, Fraction(9, 2)),
                                           st(5, 0, Fraction(13, 2))))
        self.same(later_by(rows, f(2)), (st(0, 1, 8),))

    def test_many_by_each_moment(self):
        for seed in range(150):
            rnd = random.Random(seed)
            rows = some_set(rnd)
            by = Fraction(rnd.randint(0, 6), 2)
            ends = ends_of(rows)
            moments = probes(*ends + [end + by for end in ends])

            def goes_back(m):
                # It is a stretch of moments to which one goes back: one of its ends, one of
                # the set's ends, or a moment between two of these is in the set, if any is.
                spans = [m - by, m] + [end for end in ends if m - by <= end <= m]
                return any(member(rows, back) for back in probes(*spans) if m - by <= back <= m)

            self.tells(later_by(rows, f(by)), moments, goes_back)


class HandedIn(Sets):
    def test_is_as_it_was_and_told_again(self):
        for seed in range(40):
            rnd = random.Random(seed)
            one, other = some_set(rnd), some_set(rnd)
            sets = [one, other, one]
            were = copy.deepcopy(sets)
            asks = (lambda: told_set(one), lambda: is_in(one, f(1)), lambda: both_of(one, other),
                    lambda: many_of(sets, 2), lambda: most_in(sets), lambda: out_from(one, f(1)),
                    lambda: later_by(one, f(1)))
            answers = [repr(ask()) for ask in asks]
            self.same(sets, were)
            self.assertEqual([repr(ask()) for ask in asks], answers)

    def test_what_is_told_is_not_changed_from_outside(self):
        row = list(st(0, 1, 2))
        rows = [row]
        answer = told_set(rows)
        row[1] = 0
        rows.append(st(5, 1, 6))
        self.same(answer, (st(0, 1, 2),))

    def test_lists_in_the_place_of_tuples(self):
        for seed in range(40):
            rnd = random.Random(seed)
            sets = [some_set(rnd) for _ in range(3)]
            lists = [[list(row) for row in one] for one in sets]
            tuples = tuple(tuple(tuple(row) for row in one) for one in sets)
            self.same(told_set(lists[0]), told_set(tuples[0]))
            self.same(both_of(lists[0], lists[1]), both_of(tuples[0], tuples[1]))
            self.same(many_of(lists, 2), many_of(tuples, 2))
            self.same(most_in(lists), most_in(tuples))
            self.same(out_from(lists[0], f(0)), out_from(tuples[0], f(0)))
            self.same(later_by(lists[0], f(1)), later_by(tuples[0], f(1)))
            self.same(is_in(lists[0], f(0)), is_in(tuples[0], f(0)))

    def test_what_was_told_may_be_handed_in_again(self):
        for seed in range(40):
            rnd = random.Random(seed)
            answer = told_set(some_set(rnd, 9))
            self.same(told_set(answer), answer)
            self.same(both_of(answer, answer), answer)
            self.same(later_by(answer, f(0)), answer)


if __name__ == "__main__":
    unittest.main()
