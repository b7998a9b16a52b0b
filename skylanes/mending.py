"""Mending: flights gone through by rank, each kept, shaped, or lost beside those kept ahead of it."""

from skylanes.amounts import least_amount
from skylanes.meets import may_meet
from skylanes.plans import all_tuples
from skylanes.shapes import flight_by


def by_rank(rows):
    """Rows of (name, rank, ..) by falling rank, of one rank as they stand."""
    return sorted(rows, key=lambda row: -row[1])


def next_told(row, kept, now, apart, shapes):
    """What is told of a row behind the flights that were kept ahead of it."""
    name, rank, flight = row
    if not any([may_meet(other, flight, apart) for other in kept]):
        return (name, None, flight)
    for word, most in shapes:
        amount = least_amount(flight, word, now, kept, apart, most)
        if amount is not None:
            shape = (word, amount)
            return (name, shape, flight_by(flight, [shape], now))
    return (name, "lost", flight)


def is_kept(told_row):
    """Whether a told row isn't lost."""
    return told_row[1] != "lost"


def mended(rows, now, apart, shapes):
    """A tuple of (name, how, flight), in the order in which they are gone through."""
    told = []
    kept = []
    for row in by_rank(all_tuples(rows)):
        answer = next_told(row, kept, now, apart, shapes)
        told.append(answer)
        if is_kept(answer):
            kept.append(answer[2])
    return tuple(told)


def first_fault(told, apart):
    """The numbers of the first two that aren't lost and may meet, by the latter, then by the former; None of none."""
    for latter, row in enumerate(told):
        for former in range(latter):
            if is_kept(row) and is_kept(told[former]) and may_meet(told[former][2], row[2], apart):
                return (former, latter)
    return None


def amiss(rows, now, apart, shapes, told):
    """The names in told, in its order, of which mended would tell otherwise behind what told has ahead of them."""
    flights = {row[0]: row for row in all_tuples(rows)}
    names = []
    kept = []
    for answer in all_tuples(told):
        if next_told(flights[answer[0]], kept, now, apart, shapes) != answer:
            names.append(answer[0])
        if is_kept(answer):
            kept.append(answer[2])
    return tuple(names)
