import copy
import itertools
import random
import unittest

from helper import Base, f, flight, listed, some_bounds, some_plan, st
from skylanes.agree import fault_beside, fault_of
from skylanes.gates import over_used, use_of
from skylanes.meets import meet_of
from skylanes.rooms import over_full

APART = (f(2), f(1))
EAST = flight((0, 0, 0, 0), (10, 10, 0, 0))
WEST = flight((0, 10, 0, 0), (10, 0, 0, 0))
# Above one another, so that no two may meet; all come by the hall from 4 to 6.
LEVELS = [flight((0, 0, 0, z), (10, 10, 0, z)) for z in (0, 1, 2, 3)]


def room_of(name, most=1, low=(4, -9, -9), high=(6, 9, 9)):
    return (name, tuple(f(value) for value in low), tuple(f(value) for value in high), most)


def clearance(name, flight_in, begin=None, end=None, rank=3):
    return (name, rank, flight_in, begin, end)


def wanted_of(clearances, apart, rooms, gates):
    """The first fault, by the document's words."""
    pairs = sorted((min(one[0], other[0]), max(one[0], other[0]))
                   for one, other in itertools.combinations(clearances, 2)
                   if meet_of(one[2], other[2], apart)[0] == "meet")
    if pairs:
        return ("meet",) + pairs[0]
    for room in rooms:
        stretches = over_full([row[2] for row in clearances], room)
        if stretches:
            return ("room", room[0], stretches[0])
    for gate in gates:
        uses = [use_of(gate, plan[at][0], bounds[2]) for _, _, (plan, bounds), begin, end in clearances
                for at, name in ((0, begin), (-1, end)) if name == gate[0]]
        stretches = over_used(gate, uses)
        if stretches:
            return ("gate", gate[0], stretches[0])
    return None


class Agree(Base):
    def comes(self, clearances, wanted, rooms=(), gates=()):
        """In whatever order they are, and of lists."""
        for order in itertools.permutations(clearances):
            self.same(fault_of(list(order), APART, list(rooms), list(gates)), wanted)
        self.same(fault_of(listed(tuple(clearances)), list(APART), listed(tuple(rooms)),
                           tuple(list(gate) for gate in gates)), wanted)
        self.same(wanted_of(clearances, APART, rooms, gates), wanted)

    def test_no_clearances(self):
        self.comes([], None)
        self.comes([], None, [room_of("hall")], [("west", f(2), 1)])

    def test_one(self):
        self.comes([clearance("ant", EAST, "west", "east")], None, [room_of("hall")],
                   [("west", f(20), 1), ("east", f(20), 1)])

    def test_two_that_may_meet(self):
        self.comes([clearance("ant", EAST), clearance("bee", WEST)], ("meet", "ant", "bee"))
        self.comes([clearance("bee", EAST), clearance("ant", WEST)], ("meet", "ant", "bee"))
        self.comes([clearance("b", EAST), clearance("ab", WEST)], ("meet", "ab", "b"))
        self.comes([clearance("ant", LEVELS[0]), clearance("bee", LEVELS[1])], None)

    def test_the_first_pair_as_tuples_rise(self):
        far = flight((0, 50, 0, 0), (9, 50, 0, 0))
        near = flight((0, 51, 0, 0), (9, 51, 0, 0))
        self.comes([clearance("bee", EAST), clearance("cat", WEST), clearance("ant", far), clearance("dog", near)],
                   ("meet", "ant", "dog"))
        self.comes([clearance("cat", EAST), clearance("bee", WEST), clearance("dog", far), clearance("ant", near)],
                   ("meet", "ant", "dog"))
        self.comes([clearance("dog", EAST), clearance("bee", WEST), clearance("cat", EAST)], ("meet", "bee", "cat"))

    def test_ranks_do_not_count(self):
        self.comes([clearance("ant", EAST, rank=0), clearance("bee", WEST, rank=9)], ("meet", "ant", "bee"))

    def test_rooms(self):
        rows = [clearance(name, flight_in) for name, flight_in in zip(("ant", "bee", "cat"), LEVELS)]
        for most, wanted in ((1, ("room", "hall", st(4, 0, 6))), (2, ("room", "hall", st(4, 0, 6))), (3, None)):
            self.comes(rows, wanted, [room_of("hall", most)])
        self.comes(rows[:2], None, [room_of("hall", 2)])

    def test_the_first_room_and_its_first_stretch(self):
        rows = [clearance("ant", LEVELS[0]), clearance("bee", LEVELS[1])]
        small = room_of("nook", 1, (7, -9, -9), (8, 9, 9))
        wide = room_of("yard", 2, (0, -9, -9), (9, 9, 9))
        self.comes(rows, ("room", "nook", st(7, 0, 8)), [wide, small, room_of("hall")])
        self.comes(rows, ("room", "hall", st(4, 0, 6)), [wide, room_of("hall"), small])
        # In the room, out of it, and in it again.
        there = ((0, 0, 0, 0), (10, 10, 0, 0), (20, 0, 0, 0))
        rows = [clearance(name, flight(*[corner[:3] + (z,) for corner in there])) for name, z in (("ant", 0), ("bee", 4))]
        self.comes(rows, ("room", "hall", st(4, 0, 6)), [room_of("hall")])

    def test_gates(self):
        rows = [clearance("ant", LEVELS[0], "west"), clearance("bee", LEVELS[1], "west")]
        self.comes(rows, ("gate", "west", st(0, 1, 3)), gates=[("west", f(3), 1)])
        self.comes(rows, None, gates=[("west", f(3), 2)])
        self.comes(rows, None, gates=[("east", f(3), 1)])
        self.comes(rows, ("gate", "west", st(0, 1, 2)), gates=[("east", f(3), 1), ("west", f(2), 1)])
        late = (LEVELS[1][0], (f(0), f(0), f(9)))
        self.comes([rows[0], clearance("bee", (LEVELS[3][0], late[1]), "west")], ("gate", "west", st(0, 1, 3)),
                   gates=[("west", f(3), 1)])

    def test_uses_of_both_kinds_count(self):
        first = flight((0, 0, 0, 0), (10, 10, 0, 0))
        second = flight((11, 50, 0, 0), (20, 50, 0, 0))
        rows = [clearance("ant", first, "west", "east"), clearance("bee", second, "east", "west")]
        self.comes(rows, ("gate", "east", st(11, 1, 12)), gates=[("west", f(2), 1), ("east", f(2), 1)])
        # One ends just when the other begins.
        self.comes(rows, None, gates=[("west", f(1), 1), ("east", f(1), 1)])
        self.comes(rows, None, gates=[("west", f(2), 1), ("east", f(2), 2)])
        self.comes(rows, ("gate", "west", st(20, 1, 30)), gates=[("west", f(30), 1), ("east", f(1), 1)])

    def test_the_first_gate_and_its_first_stretch(self):
        rows = [clearance("ant", LEVELS[0], "west", "east"), clearance("bee", LEVELS[1], "west", "east")]
        west, east = ("west", f(2), 1), ("east", f(2), 1)
        self.comes(rows, ("gate", "west", st(0, 1, 2)), gates=[west, east])
        self.comes(rows, ("gate", "east", st(10, 1, 12)), gates=[east, west])
        rows = [clearance("ant", LEVELS[0], "west"), clearance("bee", LEVELS[1], "west"),
                clearance("cat", LEVELS[2], None, "west"), clearance("dog", LEVELS[3], None, "west")]
        self.comes(rows, ("gate", "west", st(0, 1, 2)), gates=[west])

    def test_a_meet_ahead_of_a_room_ahead_of_a_gate(self):
        rooms, gates = [room_of("hall")], [("west", f(2), 1)]
        rows = [clearance("ant", EAST, "west"), clearance("bee", EAST, "west")]
        self.comes(rows, ("meet", "ant", "bee"), rooms, gates)
        rows = [clearance("ant", LEVELS[0], "west"), clearance("bee", LEVELS[1], "west")]
        self.comes(rows, ("room", "hall", st(4, 0, 6)), rooms, gates)
        self.comes(rows, ("gate", "west", st(0, 1, 2)), [room_of("hall", 2)], gates)

    def test_a_room_and_a_gate_of_one_name(self):
        rows = [clearance("ant", LEVELS[0], "hall"), clearance("bee", LEVELS[1], "hall")]
        self.comes(rows, ("gate", "hall", st(0, 1, 2)), [room_of("hall", 2)], [("hall", f(2), 1)])
        self.comes(rows, ("room", "hall", st(4, 0, 6)), [room_of("hall", 1)], [("hall", f(2), 2)])

    def some_case(self, seed):
        rnd = random.Random(seed)
        names = rnd.sample(["ant", "bee", "cat", "dog", "elk"], rnd.randint(0, 4))
        rows = []
        for name in names:
            begin, end = rnd.choice(((None, None), ("west", None), ("east", "west"), ("west", "east"), (None, "east")))
            plan = some_plan(rnd, most=4, far=rnd.choice((4, 9)))
            rows.append((name, rnd.randint(0, 9), (plan, some_bounds(rnd)), begin, end))
        rooms = [room_of("hall", rnd.randint(1, 2), (-2, -2, -2), (2, 2, 2)), room_of("yard", 2, (-9, 0, -9), (9, 3, 9))]
        gates = [("west", f(rnd.randint(1, 4)), 1), ("east", f(rnd.randint(1, 4)), 2)]
        return rows, (f(1, 2), f(1, 2)), rooms, gates

    def test_many(self):
        words = {"meet": 0, "room": 0, "gate": 0, None: 0}
        for seed in range(300):
            case = self.some_case(seed)
            wanted = wanted_of(*case)
            self.same(fault_of(*case), wanted)
            words[wanted and wanted[0]] += 1
            # Beside others that agree the same is told.
            rows = case[0]
            if rows and fault_of(rows[1:], *case[1:]) is None:
                self.same(fault_beside(rows[0], rows[1:], *case[1:]), wanted)
        self.assertGreater(min(words.values()), 10)

    def test_is_as_it_was_and_told_again(self):
        for seed in range(20):
            rows, apart, rooms, gates = self.some_case(seed)
            things = [listed(tuple(rows)), list(apart), listed(tuple(rooms)), [list(gate) for gate in gates]]
            were = copy.deepcopy(things)
            answer = fault_of(*things)
            self.same(things, were)
            self.same(fault_of(*things), answer)
            self.same(fault_of(rows, apart, rooms, gates), answer)


if __name__ == "__main__":
    unittest.main()
