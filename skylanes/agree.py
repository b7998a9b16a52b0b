"""Clearances (name, rank, flight, begin, end), and whether they agree."""

from skylanes.gates import over_used, use_of
from skylanes.meets import may_meet
from skylanes.rooms import over_full


def flights_of(clearances):
    """The flights of some clearances."""
    return [clearance[2] for clearance in clearances]


def uses_of(clearances, gate):
    """The uses that some clearances make of a gate, at their first and at their last moments."""
    told = []
    for name, rank, (plan, bounds), begin, end in clearances:
        if begin == gate[0]:
            told.append(use_of(gate, plan[0][0], bounds[2]))
        if end == gate[0]:
            told.append(use_of(gate, plan[-1][0], bounds[2]))
    return told


def by_name(clearances):
    """Clearances by rising names."""
    return sorted(clearances, key=lambda clearance: clearance[0])


def fault_by(pairs, clearances, apart, rooms, gates):
    """The first fault of some clearances, of which only these pairs may meet; None where they agree."""
    for one, other in pairs:
        if may_meet(one[2], other[2], apart):
            return ("meet", one[0], other[0])
    flights = flights_of(clearances)
    for room in rooms:
        stretches = over_full(flights, room)
        if stretches:
            return ("room", room[0], stretches[0])
    for gate in gates:
        stretches = over_used(gate, uses_of(clearances, gate))
        if stretches:
            return ("gate", gate[0], stretches[0])
    return None


def fault_of(clearances, apart, rooms, gates):
    """The first fault of some clearances, None where they agree."""
    rows = by_name(clearances)
    pairs = [(one, other) for at, one in enumerate(rows) for other in rows[at + 1:]]
    return fault_by(pairs, clearances, apart, rooms, gates)


def fault_beside(one, others, apart, rooms, gates):
    """fault_of a clearance and others, of which it is known that they agree by themselves; sooner told."""
    pairs = [(other, one) if other[0] < one[0] else (one, other) for other in by_name(others)]
    return fault_by(pairs, others + [one], apart, rooms, gates)
