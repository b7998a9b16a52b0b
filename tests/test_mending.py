import copy
import random
import unittest

from helper import Base, f, flight, listed, some_bounds, some_plan
from skylanes.amounts import least_amount
from skylanes.meets import meet_of
from skylanes.mending import amiss, first_fault, mended
from skylanes.shapes import shaped

APART = (f(2), f(1))
WORDS = ("wait", "slow", "east", "west", "north", "south", "up", "down")

# All of them come by the same spot, from four sides, at 5.
EAST = flight((0, 0, 0, 0), (5, 5, 0, 0), (10, 10, 0, 0))
WEST = flight((0, 10, 0, 0), (10, 0, 0, 0))
NORTH = flight((0, 5, -5, 0), (5, 5, 0, 0), (10, 5, 5, 0), late=1)
# It comes by only when WEST does, where that one has to wait for EAST.
BEHIND = flight((10, 5, -5, 0), (15, 5, 0, 0), (20, 5, 5, 0), late=1)
FAR = flight((0, 50, 0, 0), (9, 50, 0, 0), aside=1)
LATER = ("wait", f(30))
HIGHER = ("up", f(3))


def by(flight_in, word, amount, now=0):
    return (shaped(flight_in[0], (word, amount), f(now)), flight_in[1])


def may_meet(one, other, apart=APART):
    return meet_of(one, other, apart)[0] == "meet"


def told_next(row, ahead, now, apart, shapes):
    """What the document's words tell of a row behind what is told ahead of it."""
    name, _, flight_in = row
    kept = [other for _, how, other in ahead if how != "lost"]
    if not any(may_meet(flight_in, other, apart) for other in kept):
        return (name, None, flight_in)
    for word, most in shapes:
        amount = least_amount(flight_in, word, now, kept, apart, most)
        if amount is not None:
            return (name, (word, amount), (shaped(flight_in[0], (word, amount), now), flight_in[1]))
    return (name, "lost", flight_in)


def wanted_of(rows, now, apart, shapes):
    told = []
    for rank in range(9, -1, -1):
        for row in rows:
            if row[1] == rank:
                told.append(told_next(row, told, now, apart, shapes))
    return tuple(told)


def some_case(seed):
    rnd = random.Random(seed)
    names = rnd.sample(["ant", "bee", "cat", "dog", "elk", "fox"], rnd.randint(1, 5))
    rows = [(name, rnd.randint(0, 3), (some_plan(rnd, most=4, far=4), some_bounds(rnd))) for name in names]
    shapes = [(rnd.choice(WORDS), f(rnd.randint(0, 12))) for _ in range(rnd.randint(0, 3))]
    return rows, f(rnd.randint(-8, 6)), (f(1), f(1)), shapes


class Mending(Base):
    def told(self, rows, shapes, wanted, now=0):
        """What mended tells, of tuples and of lists; it has no fault, and is nowhere amiss."""
        answer = mended(rows, f(now), APART, shapes)
        self.same(answer, wanted)
        self.same(mended([listed(row) for row in rows], f(now), list(APART), [list(row) for row in shapes]), wanted)
        self.assertIsNone(first_fault(answer, APART))
        self.assertIsNone(first_fault(listed(answer), list(APART)))
        self.same(amiss(rows, f(now), APART, shapes, answer), ())
        self.same(amiss([listed(row) for row in rows], f(now), list(APART), [list(row) for row in shapes],
                        listed(answer)), ())


class Mended(Mending):
    def test_none_and_one(self):
        self.told([], [LATER], ())
        self.told([("ant", 3, EAST)], [LATER], (("ant", None, EAST),))
        self.told([("ant", 3, EAST)], [], (("ant", None, EAST),))

    def test_by_falling_rank(self):
        rows = [("ant", 1, EAST), ("bee", 9, FAR), ("cat", 2, WEST)]
        amount = least_amount(EAST, "wait", f(0), [FAR, WEST], APART, f(30))
        self.assertGreater(amount[0], 0)
        self.told(rows, [LATER], (("bee", None, FAR), ("cat", None, WEST),
                                  ("ant", ("wait", amount), by(EAST, "wait", amount))))

    def test_ranks_that_are_alike(self):
        for former, latter in ((("ant", EAST), ("bee", WEST)), (("bee", EAST), ("ant", WEST)),
                               (("bee", WEST), ("ant", EAST))):
            rows = [(former[0], 4, former[1]), (latter[0], 4, latter[1])]
            amount = least_amount(latter[1], "wait", f(0), [former[1]], APART, f(30))
            self.told(rows, [LATER], ((former[0], None, former[1]),
                                      (latter[0], ("wait", amount), by(latter[1], "wait", amount))))
        rows = [("cat", 0, FAR), ("ant", 5, EAST), ("dog", 0, flight((0, 90, 0, 0), (9, 90, 0, 0)))]
        self.told(rows, [], (("ant", None, EAST), ("cat", None, FAR), ("dog", None, rows[2][2])))

    def test_the_first_word_that_has_an_amount(self):
        rows = [("ant", 5, WEST), ("bee", 4, EAST)]
        wait = least_amount(EAST, "wait", f(0), [WEST], APART, f(30))
        up = least_amount(EAST, "up", f(0), [WEST], APART, f(30))
        # The later word has a lesser one.
        self.assertLess(up[0] * wait[1], wait[0] * up[1])
        self.told(rows, [LATER, HIGHER], (("ant", None, WEST), ("bee", ("wait", wait), by(EAST, "wait", wait))))
        self.told(rows, [HIGHER, LATER], (("ant", None, WEST), ("bee", ("up", up), by(EAST, "up", up))))

    def test_the_second_word(self):
        # The first one goes not far enough; or there is no corner to put off.
        rows = [("ant", 5, WEST), ("bee", 4, EAST)]
        up = least_amount(EAST, "up", f(0), [WEST], APART, f(30))
        self.told(rows, [("wait", f(1)), HIGHER], (("ant", None, WEST), ("bee", ("up", up), by(EAST, "up", up))))
        rows = [("ant", 5, EAST), ("bee", 4, WEST)]
        wait = least_amount(WEST, "wait", f(0), [EAST], APART, f(30))
        self.told(rows, [HIGHER, LATER], (("ant", None, EAST), ("bee", ("wait", wait), by(WEST, "wait", wait))))

    def test_a_word_twice(self):
        rows = [("ant", 5, EAST), ("bee", 4, WEST)]
        wait = least_amount(WEST, "wait", f(0), [EAST], APART, f(30))
        self.told(rows, [("wait", f(1)), LATER], (("ant", None, EAST), ("bee", ("wait", wait), by(WEST, "wait", wait))))

    def test_at_most_itself(self):
        rows = [("ant", 5, EAST), ("bee", 4, WEST)]
        wait = least_amount(WEST, "wait", f(0), [EAST], APART, f(30))
        self.told(rows, [("wait", wait)], (("ant", None, EAST), ("bee", ("wait", wait), by(WEST, "wait", wait))))
        less = f(wait[0] * 100 - wait[1], wait[1] * 100)
        self.told(rows, [("wait", less)], (("ant", None, EAST), ("bee", "lost", WEST)))

    def test_lost(self):
        rows = [("ant", 5, EAST), ("bee", 4, WEST)]
        self.told(rows, [], (("ant", None, EAST), ("bee", "lost", WEST)))
        self.told(rows, [HIGHER], (("ant", None, EAST), ("bee", "lost", WEST)))
        # A most of 0.
        self.told(rows, [("wait", f(0)), ("up", f(0))], (("ant", None, EAST), ("bee", "lost", WEST)))
        # Its plan is over.
        self.told(rows, [LATER], (("ant", None, EAST), ("bee", "lost", WEST)), now=10)

    def test_a_lost_one_bars_none(self):
        # The last one would meet the lost one alone.
        rows = [("ant", 5, EAST), ("bee", 4, WEST), ("cat", 3, flight((0, 10, 0, 0), (2, 8, 0, 0)))]
        self.assertTrue(may_meet(rows[2][2], WEST) and not may_meet(rows[2][2], EAST))
        self.told(rows, [], (("ant", None, EAST), ("bee", "lost", WEST), ("cat", None, rows[2][2])))

    def test_shaped_ones_count_as_they_are_shaped(self):
        rows = [("ant", 5, EAST), ("bee", 4, WEST), ("cat", 3, BEHIND)]
        self.assertFalse(may_meet(BEHIND, EAST) or may_meet(BEHIND, WEST))
        self.told(rows, [LATER], (("ant", None, EAST), ("bee", ("wait", f(10)), by(WEST, "wait", f(10))),
                                  ("cat", ("wait", f(4)), by(BEHIND, "wait", f(4)))))

    def test_now_counts(self):
        rows = [("ant", 5, NORTH), ("bee", 4, EAST)]
        amount = least_amount(EAST, "wait", f(2), [NORTH], APART, f(30))
        self.told(rows, [LATER], (("ant", None, NORTH), ("bee", ("wait", amount), by(EAST, "wait", amount, 2))), now=2)

    def test_many(self):
        hows = {"kept": 0, "shaped": 0, "lost": 0}
        for seed in range(240):
            rows, now, apart, shapes = some_case(seed)
            answer = mended(rows, now, apart, shapes)
            self.same(answer, wanted_of(rows, now, apart, shapes))
            self.assertIsNone(first_fault(answer, apart))
            self.same(amiss(rows, now, apart, shapes, answer), ())
            for _, how, _ in answer:
                hows["kept" if how is None else how if how == "lost" else "shaped"] += 1
        self.assertGreater(min(hows.values()), 30)


class FirstFault(Mending):
    def comes(self, told, wanted):
        self.same(first_fault(told, APART), wanted)
        self.same(first_fault(listed(tuple(told)), list(APART)), wanted)

    def test_none(self):
        self.comes((), None)
        self.comes((("ant", None, EAST),), None)
        self.comes((("ant", None, EAST), ("bee", None, FAR)), None)

    def test_the_pair(self):
        self.comes((("ant", None, EAST), ("bee", None, WEST)), (0, 1))
        self.comes((("ant", None, EAST), ("bee", None, FAR), ("cat", ("up", f(1)), WEST)), (0, 2))
        self.comes((("bee", None, FAR), ("ant", ("wait", f(3)), EAST), ("cat", None, WEST)), (1, 2))

    def test_by_the_latter_then_by_the_former(self):
        # 1 and 2 may meet, and 0 and 3: the lesser latter goes first.
        high = flight((0, 50, 0, 0), (9, 50, 5, 0))
        told = (("ant", None, FAR), ("bee", None, EAST), ("cat", None, WEST), ("dog", None, high))
        self.assertTrue(may_meet(FAR, high))
        self.comes(told, (1, 2))
        # All of three may meet the last one.
        self.comes((("ant", None, FAR), ("bee", None, EAST), ("cat", "lost", WEST), ("dog", None, NORTH)), (1, 3))
        self.comes((("ant", "lost", EAST), ("bee", None, EAST), ("cat", "lost", WEST), ("dog", None, NORTH)), (1, 3))

    def test_lost_ones_are_passed_over(self):
        self.comes((("ant", "lost", EAST), ("bee", None, WEST)), None)
        self.comes((("ant", None, EAST), ("bee", "lost", WEST)), None)
        self.comes((("ant", None, EAST), ("bee", "lost", WEST), ("cat", None, NORTH)), (0, 2))
        self.comes((("ant", "lost", EAST), ("bee", "lost", WEST)), None)


class Amiss(Mending):
    rows = [("cat", 3, BEHIND), ("ant", 5, EAST), ("bee", 4, WEST)]
    shapes = [LATER, HIGHER]

    def right(self):
        return list(mended(self.rows, f(0), APART, self.shapes))

    def comes(self, told, wanted, shapes=None):
        shapes = self.shapes if shapes is None else shapes
        self.same(amiss(self.rows, f(0), APART, shapes, tuple(told)), wanted)
        self.same(amiss(tuple(listed(row) for row in self.rows), f(0), list(APART), tuple(map(tuple, shapes)),
                        listed(tuple(told))), wanted)

    def test_what_mended_told(self):
        self.comes(self.right(), ())
        self.same(amiss([], f(0), APART, [], ()), ())

    def test_another_how(self):
        for how in (None, "lost", ("wait", f(29)), ("up", self.right()[2][1][1])):
            told = self.right()
            told[2] = ("cat", how, told[2][2])
            self.comes(told, ("cat",))

    def test_another_flight(self):
        told = self.right()
        told[2] = ("cat", told[2][1], BEHIND)
        self.comes(told, ("cat",))
        told = self.right()
        told[2] = told[2][:2] + ((told[2][2][0], (f(0), f(0), f(0))),)
        self.comes(told, ("cat",))

    def test_what_is_told_ahead_counts_as_it_is_told(self):
        # Without the second one the third one needs no shape: told as mended told it, it is amiss, too.
        told = self.right()
        told[1] = ("bee", "lost", WEST)
        self.comes(told, ("bee", "cat"))
        told[2] = ("cat", None, BEHIND)
        self.comes(told, ("bee",))
        # The first one far off bars none.
        told = [("ant", None, FAR), ("bee", None, WEST), self.right()[2]]
        self.comes(told, ("ant", "cat"))
        told[2] = ("cat", None, BEHIND)
        self.comes(told, ("ant",))

    def test_other_shapes(self):
        self.comes(self.right(), ("bee", "cat"), shapes=[])
        self.comes(self.right(), (), shapes=[LATER])

    def test_one_row_otherwise(self):
        spoilt = 0
        for seed in range(120):
            rows, now, apart, shapes = some_case(seed)
            rnd = random.Random(seed)
            told = list(mended(rows, now, apart, shapes))
            at = rnd.randrange(len(told))
            name, how, flight_in = told[at]
            if rnd.random() < 0.5:
                told[at] = (name, "lost" if how != "lost" else None, flight_in)
            else:
                told[at] = (name, how, (some_plan(rnd, most=4, far=4), flight_in[1]))
            ranks = {row[0]: row for row in rows}
            wanted = tuple(row[0] for number, row in enumerate(told)
                           if told_next(ranks[row[0]], told[:number], now, apart, shapes) != row)
            self.same(amiss(rows, now, apart, shapes, tuple(told)), wanted)
            spoilt += len(wanted) > 1
        self.assertGreater(spoilt, 10)


class HandedIn(Mending):
    def test_is_as_it_was_and_told_again(self):
        for seed in range(20):
            rows, now, apart, shapes = some_case(seed)
            told = [list(row) for row in mended(rows, now, apart, shapes)]
            things = [[listed(row) for row in rows], list(apart), [list(row) for row in shapes], told]
            were = copy.deepcopy(things)
            answer = mended(things[0], now, things[1], things[2])
            names = amiss(things[0], now, things[1], things[2], told)
            first_fault(told, things[1])
            self.same(things, were)
            self.same(mended(things[0], now, things[1], things[2]), answer)
            self.same(amiss(things[0], now, things[1], things[2], told), names)
            self.same(answer, mended(rows, now, apart, shapes))


if __name__ == "__main__":
    unittest.main()
