import copy
import random
import unittest
from fractions import Fraction

from helper import Sets, f, listed, member, number, plan_of, probes, some_bounds, some_plan, spot, st
from skylanes.rooms import full, fullest, over_full, stays

SURE = (f(0), f(0), f(0))


def spot_of(*numbers):
    return tuple(f(value) for value in numbers)


def room_of(low, high, most=1, name="hall"):
    return (name, spot_of(*low), spot_of(*high), most)


def bounds_of(aside, above, late):
    return (f(aside), f(above), f(late))


# Ten wide, ten deep, ten high.
HALL = room_of((0, 0, 0), (10, 10, 10))


def stay(*corners, bounds=SURE, room=HALL):
    return stays((plan_of(*corners), bounds), room)


def is_inside(flight, room, s):
    """Whether a machine with this own moment may be in the room, in Python's own fractions."""
    plan, bounds = flight
    if not number(plan[0][0]) <= s < number(plan[-1][0]):
        return False
    offs = [number(bounds[0]), number(bounds[0]), number(bounds[1])]
    return all(number(low) - off < place < number(high) + off
               for place, low, high, off in zip(spot(plan, s), room[1], room[2], offs))


def own_turns(flight, room):
    """The own moments at which it may begin or end to be in the room: corners, and where it comes to a wall."""
    plan, bounds = flight
    told = {number(corner[0]) for corner in plan}
    offs = [number(bounds[0]), number(bounds[0]), number(bounds[1])]
    for former, latter in zip(plan, plan[1:]):
        begin, end = number(former[0]), number(latter[0])
        for side in range(3):
            low, high = number(former[side + 1]), number(latter[side + 1])
            for wall in (number(room[1][side]) - offs[side], number(room[2][side]) + offs[side]):
                if low != high and 0 <= (wall - low) / (high - low) <= 1:
                    told.add(begin + (wall - low) / (high - low) * (end - begin))
    return sorted(told)


def is_staying(flight, room, turns, m):
    """Whether the flight may be in the room at a time: by any own moment up to late ahead of it."""
    late = number(flight[1][2])
    owns = [s for s in turns if m - late < s < m]
    return any(is_inside(flight, room, s) for s in probes(m - late, m, *owns) if m - late <= s <= m)


def times_of(flights, room):
    told = []
    for flight in flights:
        owns = own_turns(flight, room)
        told += owns + [s + number(flight[1][2]) for s in owns]
    return probes(*told)


def some_room(rnd):
    low = [rnd.randint(-4, 1) for _ in range(3)]
    return room_of(low, [side + rnd.randint(1, 6) for side in low], rnd.randint(1, 2))


def some_flight(rnd):
    return (some_plan(rnd, far=3), some_bounds(rnd))


class Stays(Sets):
    def test_through(self):
        self.same(stay((0, -5, 5, 5), (20, 15, 5, 5)), (st(5, 0, 15),))
        self.same(stay((0, 15, 5, 5), (20, -5, 5, 5)), (st(5, 0, 15),))
        self.same(stay((0, 5, -5, 5), (20, 5, 15, 5)), (st(5, 0, 15),))
        self.same(stay((0, 5, 5, 25), (20, 5, 5, -15)), (st("15/2", 0, "25/2"),))
        self.same(stay((0, -1, 5, 5), (1, 2, 5, 5)), (st("1/3", 0, 1),))

    def test_past(self):
        for corners in (((0, -5, -5, 5), (20, 15, -5, 5)), ((0, 5, 5, 11), (20, 5, 5, 30)),
                        ((0, -5, 5, 5), (4, -1, 5, 5)), ((0, -5, 5, 20), (20, 15, 5, 20))):
            self.same(stay(*corners), ())

    def test_above_low_and_below_high(self):
        inner = [5, 5, 5]
        for side in range(3):
            for place, inside in ((-1, False), (0, False), ("1/100", True), (5, True), ("999/100", True),
                                  (10, False), (11, False)):
                here = list(inner)
                here[side] = place
                wanted = (st(3, 1, 7),) if inside else ()
                self.same(stay([3] + here, [7] + here), wanted)

    def test_touches_a_wall(self):
        for side in range(3):
            for wall, out in ((0, -4), (10, 14)):
                far = [5, 5, 5]
                near = [5, 5, 5]
                far[side], near[side] = out, wall
                # To the wall and back, or away from it, is never in.
                self.same(stay([0] + far, [4] + near, [8] + far), ())
                self.same(stay([0] + near, [4] + far), ())
                self.same(stay([0] + far, [4] + near), ())

    def test_touches_a_wall_from_within(self):
        for side in range(3):
            for wall in (0, 10):
                inner = [5, 5, 5]
                near = [5, 5, 5]
                near[side] = wall
                self.same(stay([0] + inner, [4] + near, [8] + inner), (st(0, 1, 4), st(4, 0, 8)))
                self.same(stay([0] + near, [4] + inner), (st(0, 0, 4),))

    def test_along_a_wall(self):
        for side in range(3):
            for wall in (0, 10):
                first, last = [1, 1, 1], [9, 9, 9]
                first[side] = last[side] = wall
                self.same(stay([0] + first, [4] + last), ())
                # From along it into the room.
                self.same(stay([0] + first, [4] + last, [8, 5, 5, 5]), (st(4, 0, 8),))
                self.same(stay([0, 5, 5, 5], [4] + first, [8] + last), (st(0, 1, 4),))

    def test_through_an_edge(self):
        # Over the edge of two walls from outside to outside, and to inside.
        self.same(stay((0, -2, 2, 5), (4, 2, -2, 5)), ())
        self.same(stay((0, -2, -2, 5), (4, 2, 2, 5)), (st(2, 0, 4),))
        self.same(stay((0, 8, 12, 5), (4, 12, 8, 5)), ())
        self.same(stay((0, 8, 5, 8), (4, 12, 5, 12)), (st(0, 1, 2),))
        self.same(stay((0, 5, 0, 0), (4, 5, 10, 10)), (st(0, 0, 4),))
        # Along an edge.
        self.same(stay((0, 0, 0, 1), (4, 0, 0, 9)), ())

    def test_through_a_corner(self):
        self.same(stay((0, -2, -2, -2), (20, 18, 18, 18)), (st(2, 0, 12),))
        self.same(stay((0, 12, 12, 12), (14, -2, -2, -2)), (st(2, 0, 12),))
        self.same(stay((0, -1, 1, -1), (2, 1, -1, 1)), ())
        self.same(stay((0, 0, 0, 0), (10, 10, 10, 10)), (st(0, 0, 10),))

    def test_stays_in_it(self):
        self.same(stay((3, 5, 5, 5), (7, 5, 5, 5)), (st(3, 1, 7),))
        self.same(stay((3, 1, 9, 5), (5, 9, 1, 1), (7, 5, 5, 9)), (st(3, 1, 7),))

    def test_first_and_last_moment(self):
        self.same(stay((0, 5, 5, 5), (10, 15, 5, 5)), (st(0, 1, 5),))
        self.same(stay((0, -5, 5, 5), (10, 5, 5, 5)), (st(5, 0, 10),))
        # Just up to a wall, and just from one on.
        self.same(stay((0, 5, 5, 5), (5, 10, 5, 5)), (st(0, 1, 5),))
        self.same(stay((0, 0, 5, 5), (5, 5, 5, 5)), (st(0, 0, 5),))

    def test_several_stays(self):
        corners = ((0, -5, 5, 5), (20, 15, 5, 5), (25, 15, 5, 5), (45, -5, 5, 5))
        self.same(stay(*corners), (st(5, 0, 15), st(30, 0, 40)))
        # A corner within the room parts nothing.
        self.same(stay((0, -5, 5, 5), (10, 5, 5, 5), (20, 5, 5, 15)), (st(5, 0, 15),))

    def test_aside(self):
        self.same(stay((0, -5, 5, 5), (20, 15, 5, 5), bounds=bounds_of(2, 0, 0)), (st(3, 0, 17),))
        self.same(stay((0, 5, -5, 5), (20, 5, 15, 5), bounds=bounds_of(2, 0, 0)), (st(3, 0, 17),))
        self.same(stay((0, 5, 5, -5), (20, 5, 5, 15), bounds=bounds_of(2, 0, 0)), (st(5, 0, 15),))
        self.same(stay((0, -2, 5, 5), (4, -2, 5, 5), bounds=bounds_of(2, 0, 0)), ())
        self.same(stay((0, -2, 5, 5), (4, -2, 5, 5), bounds=bounds_of("201/100", 0, 0)), (st(0, 1, 4),))
        self.same(stay((0, 12, 12, 5), (4, 12, 12, 5), bounds=bounds_of(3, 0, 0)), (st(0, 1, 4),))
        self.same(stay((0, 12, 14, 5), (4, 12, 14, 5), bounds=bounds_of(3, 0, 0)), ())

    def test_above(self):
        self.same(stay((0, -5, 5, 5), (20, 15, 5, 5), bounds=bounds_of(0, 2, 0)), (st(5, 0, 15),))
        self.same(stay((0, 5, 5, -5), (20, 5, 5, 15), bounds=bounds_of(0, 2, 0)), (st(3, 0, 17),))
        self.same(stay((0, 5, 5, 12), (4, 5, 5, 12), bounds=bounds_of(0, 2, 0)), ())
        self.same(stay((0, 5, 5, 12), (4, 5, 5, 12), bounds=bounds_of(0, 3, 0)), (st(0, 1, 4),))
        self.same(stay((0, 5, 5, -2), (4, 5, 5, -2), bounds=bounds_of(0, 3, 0)), (st(0, 1, 4),))

    def test_late(self):
        corners = ((0, -5, 5, 5), (20, 15, 5, 5), (25, 15, 5, 5), (45, -5, 5, 5))
        self.same(stay(*corners, bounds=bounds_of(0, 0, 3)), (st(5, 0, 18), st(30, 0, 43)))
        # The end of one comes to the begin of the next, which isn't held.
        self.same(stay(*corners, bounds=bounds_of(0, 0, 15)), (st(5, 0, 30), st(30, 0, 55)))
        self.same(stay(*corners, bounds=bounds_of(0, 0, "151/10")), (st(5, 0, "551/10"),))
        self.same(stay((0, 5, 5, 5), (10, 15, 5, 5), bounds=bounds_of(0, 0, "1/2")), (st(0, 1, "11/2"),))
        # It may be in the room when its plan is over.
        self.same(stay((0, 5, 5, 5), (4, 5, 5, 5), bounds=bounds_of(0, 0, 9)), (st(0, 1, 13),))

    def test_late_joins_what_a_wall_parts(self):
        corners = ((0, 5, 5, 5), (4, 10, 5, 5), (8, 5, 5, 5))
        self.same(stay(*corners), (st(0, 1, 4), st(4, 0, 8)))
        self.same(stay(*corners, bounds=bounds_of(0, 0, "1/9")), (st(0, 1, "73/9"),))

    def test_all_three(self):
        corners = ((0, -5, 5, -5), (20, 15, 5, 15))
        self.same(stay(*corners, bounds=bounds_of(3, 1, 2)), (st(4, 0, 18),))
        self.same(stay(*corners, bounds=bounds_of(1, 3, 2)), (st(4, 0, 18),))
        self.same(stay(*corners, bounds=bounds_of(4, 3, "1/2")), (st(2, 0, "37/2"),))

    def test_other_rooms(self):
        thin = room_of((-3, "1/2", 2), ("-5/2", "2/3", "201/100"))
        self.same(stay((0, -4, "3/5", "401/200"), (2, -2, "3/5", "401/200"), room=thin), (st(1, 0, "3/2"),))
        self.same(stay((0, -4, "3/5", 2), (2, -2, "3/5", 2), room=thin), ())

    def test_most_and_name_do_not_count(self):
        flight = (plan_of((0, -5, 5, 5), (20, 15, 5, 5)), SURE)
        for most in (1, 2, 10 ** 6):
            self.same(stays(flight, room_of((0, 0, 0), (10, 10, 10), most, "a")), (st(5, 0, 15),))

    def test_many(self):
        kinds = {"none": 0, "held": 0, "not": 0, "several": 0}
        for seed in range(400):
            rnd = random.Random(seed)
            flight, room = some_flight(rnd), some_room(rnd)
            answer = stays(flight, room)
            turns = own_turns(flight, room)
            self.tells(answer, times_of([flight], room), lambda m: is_staying(flight, room, turns, m))
            kinds["none"] += not answer
            kinds["several"] += len(answer) > 1
            kinds["held"] += any(held for _, held, _ in answer)
            kinds["not"] += any(not held for _, held, _ in answer)
        self.assertGreater(min(kinds.values()), 40)

    def test_long_numbers(self):
        big = 10 ** 399 + 7
        small = Fraction(1, 10 ** 299 + 9)
        plan = plan_of((0, -big, 5, 5), (2, big, 5, 5))
        begin = Fraction(1)
        end = Fraction(1) + Fraction(10, big)
        self.same(stays((plan, SURE), HALL), (st(begin, 0, end),))
        self.same(stays((plan, (f(small), f(0), f(small))), HALL), (st(1 - small / big, 0, end + small / big + small),))


class Full(Sets):
    def setUp(self):
        # Each of them may be in the hall from its number on for ten.
        self.flights = [(plan_of((m, 5, 5, 5), (m + 10, 5, 5, 5)), SURE) for m in (0, 4, 8)]

    def hall(self, most):
        return room_of((0, 0, 0), (10, 10, 10), most)

    def test_full(self):
        self.same(full(self.flights, self.hall(1)), (st(0, 1, 18),))
        self.same(full(self.flights, self.hall(2)), (st(4, 1, 14),))
        self.same(full(self.flights, self.hall(3)), (st(8, 1, 10),))
        self.same(full(self.flights, self.hall(4)), ())

    def test_over_full(self):
        self.same(over_full(self.flights, self.hall(1)), (st(4, 1, 14),))
        self.same(over_full(self.flights, self.hall(2)), (st(8, 1, 10),))
        # Just as many as may be in it.
        self.same(over_full(self.flights, self.hall(3)), ())
        self.same(over_full(self.flights, self.hall(4)), ())

    def test_fullest(self):
        for most in (1, 2, 3, 10 ** 6):
            self.same(fullest(self.flights, self.hall(most)), (3, st(8, 1, 10)))
        self.same(fullest(self.flights[:2], self.hall(1)), (2, st(4, 1, 10)))
        self.same(fullest(self.flights[:1] * 2, self.hall(1)), (2, st(0, 1, 10)))

    def test_fullest_tells_the_first_stretch(self):
        flights = [(plan_of((m, 5, 5, 5), (m + 10, 5, 5, 5)), SURE) for m in (40, 45, 0, 5, 90)]
        self.same(fullest(flights, HALL), (2, st(5, 1, 10)))

    def test_no_flights(self):
        for none in ([], ()):
            self.same(full(none, HALL), ())
            self.same(over_full(none, HALL), ())
            self.same(fullest(none, HALL), (0, None))

    def test_none_in_it(self):
        away = [(plan_of((0, 50, 5, 5), (9, 50, 5, 5)), SURE)] * 3
        self.same(full(away, HALL), ())
        self.same(over_full(away, HALL), ())
        self.same(fullest(away, HALL), (0, None))

    def test_one_behind_the_other(self):
        # One comes just when the other goes; each counts by itself while it may be late.
        flights = [(plan_of((0, 5, 5, 5), (4, 5, 5, 5)), SURE), (plan_of((4, 5, 5, 5), (8, 5, 5, 5)), SURE)]
        self.same(full(flights, HALL), (st(0, 1, 8),))
        self.same(over_full(flights, HALL), ())
        late = [(plan, bounds_of(0, 0, 1)) for plan, bounds in flights]
        self.same(over_full(late, HALL), (st(4, 1, 5),))
        self.same(fullest(late, HALL), (2, st(4, 1, 5)))

    def test_one_counts_once(self):
        # Twice in it, and by late at one time by both stays.
        flight = (plan_of((0, 5, 5, 5), (4, 10, 5, 5), (8, 5, 5, 5)), bounds_of(0, 0, 3))
        self.same(over_full([flight], HALL), ())
        self.same(fullest([flight], HALL), (1, st(0, 1, 11)))

    def test_many(self):
        over = 0
        for seed in range(100):
            rnd = random.Random(seed)
            flights = [some_flight(rnd) for _ in range(rnd.randint(0, 4))]
            room = some_room(rnd)
            moments = times_of(flights, room)
            turns = [own_turns(flight, room) for flight in flights]
            counts = {m: sum(map(is_staying, flights, [room] * 4, turns, [m] * 4)) for m in moments}
            self.tells(full(flights, room), moments, lambda m: counts[m] >= room[3])
            answer = over_full(flights, room)
            self.tells(answer, moments, lambda m: counts[m] > room[3])
            over += answer != ()
            most, stretch = fullest(flights, room)
            self.same(most, max(counts.values(), default=0))
            if most == 0:
                self.same(stretch, None)
            else:
                first = min(m for m in moments if counts[m] == most)
                inside = [m for m in moments if member([stretch], m)]
                self.assertEqual(first, min(inside))
                self.assertTrue(all(counts[m] == most for m in inside))
                self.assertNotEqual(counts[number(stretch[2])], most)
        self.assertGreater(over, 15)


class HandedIn(Sets):
    def test_lists_in_the_place_of_tuples(self):
        for seed in range(60):
            rnd = random.Random(seed)
            flights = [some_flight(rnd) for _ in range(3)]
            room = some_room(rnd)
            things = [listed(tuple(flights)), listed(room)]
            # A pair of whole numbers is a fraction, and none other is here.
            self.same(stays(things[0][0], things[1]), stays(flights[0], room))
            for told in (full, over_full, fullest):
                self.same(told(things[0], things[1]), told(tuple(flights), room))

    def test_is_as_it_was_and_told_again(self):
        for seed in range(40):
            rnd = random.Random(seed)
            things = [listed(tuple(some_flight(rnd) for _ in range(3))), listed(some_room(rnd))]
            were = copy.deepcopy(things)
            for told, first in ((stays, things[0][0]), (full, things[0]), (over_full, things[0]), (fullest, things[0])):
                answer = told(first, things[1])
                self.same(things, were)
                self.same(told(first, things[1]), answer)


if __name__ == "__main__":
    unittest.main()
