"""A book of clearances, none of which is broken by a later one."""

from skylanes.agree import fault_beside, flights_of, uses_of
from skylanes.amounts import bad_amounts, bad_at_gate, bad_in_room, least_out
from skylanes.errors import NoGate, NoName, Past, Taken
from skylanes.fractions import before, lesser, plus
from skylanes.gates import busy
from skylanes.mending import by_rank
from skylanes.plans import all_tuples, look_plan, part_of, same_flights
from skylanes.rooms import full
from skylanes.shapes import shaped


def with_plan(clearance, plan):
    """A clearance with another plan."""
    name, rank, (old, bounds), begin, end = clearance
    return (name, rank, (plan, bounds), begin, end)


def is_past(old, new, now):
    """Whether a new plan changes of an old one what is over."""
    if not before(old[0][0], now):
        return before(new[0][0], now)
    begin = lesser(old[0][0], new[0][0])
    flown = part_of(new, begin, now)
    return flown is None or not same_flights(part_of(old, begin, now), flown)


def is_over(clearance, gates, now):
    """Whether neither the flight nor a use of a gate may end later than now."""
    plan, bounds = clearance[2]
    ends = [plus(plan[-1][0], bounds[2])]
    for gate in gates:
        ends += [end for begin, held, end in uses_of([clearance], gate)]
    return not any([before(now, end) for end in ends])


class Book:
    """The clearances that stand, and the time; what it is handed is copied, so that only its own deeds change it."""

    def __init__(self, apart, rooms, gates, shapes):
        self.apart = all_tuples(apart)
        self.rooms = all_tuples(rooms)
        self.gates = all_tuples(gates)
        self.shapes = all_tuples(shapes)
        self.moment = (0, 1)
        # By name, in the order in which they were given.
        self.standing = {}

    def others(self, name):
        """A list of those that stand but the one of that name, as they were given."""
        return [self.standing[other] for other in self.standing if other != name]

    def fault_with(self, one, others):
        """The fault of a clearance beside others that agree, None where there is none."""
        return fault_beside(one, others, self.apart, self.rooms, self.gates)

    def look_gates(self, begin, end):
        """Refuses gates that aren't there, and one and the same gate twice."""
        names = [gate[0] for gate in self.gates]
        for name in (begin, end):
            if name is not None and name not in names:
                raise NoGate("there is no such gate")
        if begin is not None and begin == end:
            raise NoGate("begin and end are one and the same gate")

    def asked(self, name, rank, flight, begin, end):
        """The clearance that is asked for; refused where it can't be."""
        plan = look_plan(flight[0])
        if name in self.standing:
            raise Taken("one of that name stands")
        self.look_gates(begin, end)
        if before(plan[0][0], self.moment):
            raise Past("its first moment is over")
        return (name, rank, (plan, all_tuples(flight[1])), begin, end)

    def ask(self, name, rank, flight, begin, end):
        """("given",) where the clearance agrees with those that stand, else ("held", fault)."""
        one = self.asked(name, rank, flight, begin, end)
        fault = self.fault_with(one, self.others(name))
        if fault is not None:
            return ("held", fault)
        self.standing[name] = one
        return ("given",)

    def fit(self, name, rank, flight, begin, end):
        """("given", shape), shape None where it agrees with those that stand as it is, else ("held", fault)."""
        one = self.asked(name, rank, flight, begin, end)
        others = self.others(name)
        fault = self.fault_with(one, others)
        shape = None
        if fault is not None:
            shape = self.shape_of(one, others)
            if shape is None:
                return ("held", fault)
        self.standing[name] = self.by_shape(one, shape)
        return ("given", shape)

    def by_shape(self, one, shape):
        """A clearance, shaped now; as it is where shape is None."""
        return one if shape is None else with_plan(one, shaped(one[2][0], shape, self.moment))

    def shape_of(self, one, others):
        """The first word with an amount by which a clearance agrees with others, and the least one; None of none."""
        flights = flights_of(others)
        filled = [(room, full(flights, room)) for room in self.rooms]
        taken = []
        for gate in self.gates:
            for side in (0, 1):
                if one[3 + side] == gate[0]:
                    taken.append((gate, busy(gate, uses_of(others, gate)), side))
        for word, most in self.shapes:
            amount = least_out(self.bad_sets(one[2], word, flights, filled, taken), most)
            if amount is not None:
                return (word, amount)
        return None

    def bad_sets(self, flight, word, flights, filled, taken):
        """The sets of the amounts of a word with which a flight is barred: by others, by rooms, by gates."""
        now = self.moment
        sets = [bad_amounts(flight, word, now, other, self.apart) for other in flights]
        sets += [bad_in_room(flight, word, now, room, moments) for room, moments in filled]
        sets += [bad_at_gate(flight, word, now, gate, moments, side) for gate, moments, side in taken]
        return sets

    def change(self, name, plan):
        """("changed", rows) of what becomes of those of a lesser rank, or ("held", fault) by those of no lesser one."""
        if name not in self.standing:
            raise NoName("none of that name stands")
        new = look_plan(plan)
        old = self.standing[name]
        if is_past(old[2][0], new, self.moment):
            raise Past("it changes what is over")
        changed = with_plan(old, new)
        others = self.others(name)
        firm = [other for other in others if other[1] >= old[1]]
        fault = self.fault_with(changed, firm)
        if fault is not None:
            return ("held", fault)
        weaker = by_rank([other for other in others if other[1] < old[1]])
        self.standing[name] = changed
        return ("changed", self.make_way(firm + [changed], weaker))

    def make_way(self, kept, weaker):
        """Goes through weaker ones beside those that are kept; the rows of those that didn't stay."""
        rows = []
        for one in weaker:
            name = one[0]
            if self.fault_with(one, kept) is not None:
                shape = self.shape_of(one, kept)
                rows.append((name, shape))
                if shape is None:
                    del self.standing[name]
                    continue
                self.standing[name] = self.by_shape(one, shape)
            kept.append(self.standing[name])
        return tuple(rows)

    def give_back(self, name):
        """The clearance of that name is gone."""
        if name not in self.standing:
            raise NoName("none of that name stands")
        del self.standing[name]

    def time(self, m):
        """Now is m; the names of those that are over then, rising."""
        if before(m, self.moment):
            raise Past("that moment is over")
        self.moment = tuple(m)
        gone = [name for name in sorted(self.standing) if is_over(self.standing[name], self.gates, self.moment)]
        for name in gone:
            del self.standing[name]
        return tuple(gone)

    def now(self):
        """The time."""
        return self.moment

    def stand(self):
        """The clearances that stand, by rising names."""
        return tuple([self.standing[name] for name in sorted(self.standing)])

    def given_order(self):
        """The names of those that stand, as they were given."""
        return tuple(self.standing)
